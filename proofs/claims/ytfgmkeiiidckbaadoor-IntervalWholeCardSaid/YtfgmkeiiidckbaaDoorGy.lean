/- The statement about IntervalWhole is proved for every input: arguments that are not valid, and divisors that contain zero, give the whole line. No condition. -/
import Derived.Test.YtfgmkeiiidckbaaDoorGi
import Derived.Test.YtfgmkeiiidckbaaDoorGf
import Derived.Test.YtfgmkeiiidckbaaDoorCRef05C
import Derived.Test.YtfgmkeiiidckbaaDoorCIPoints
namespace Go.Proofs.YtfgmkeiiidckbaaDoor
open Go.ChangeShapes Go.WideShapes Go.ChangeAt Go.RowKit Go.Joins Go.Deep

theorem Tryd.cellsDyad : Tryd.prog.cellsOf 38 = 4 := by kernel_rfl
theorem Tryd.cellsBool : Tryd.prog.cellsOf 4 = 1 := by kernel_rfl
theorem Tryd.cellsInt : Tryd.prog.cellsOf 3 = 1 := by kernel_rfl
theorem Tryd.cellsSl : Tryd.prog.cellsOf 34 = 1 := by kernel_rfl
theorem Tryd.readDyad : Tryd.prog.readableRec 38 = true := by kernel_rfl
theorem Tryd.sizeDyad : 38 < Tryd.prog.types.size := of_decide_eq_true (by kernel_rfl)

set_option maxRecDepth 100000 in
/-- a dyad that came in -/
theorem raw_dyad {H : Type} {enc : TypeId × Value → H} {W : World} {base : Nat} {v : Value} {d : DataW H} {p : List MemPlace} (hv : Value.okWide Tryd.prog W .any base 38 v)
    (h : DataW.Trod enc Tryd.prog W 0 (fun _ => true) true 38 v d p) : ∃ bb nb ao n ca f, v = .agg #[.bool bb, .bool nb, .slice ao n ca, .int .i64 f] ∧ -9223372036854775808 ≤ f ∧ f ≤ 9223372036854775807 ∧ (n ≤ 1099511627776 → ∃ zs, Sl W ao n ca zs) := by
  obtain ⟨cs, rfl, hsz⟩ := okWide_struct Tryd.underlying38 hv
  obtain ⟨c0, c1, c2, c3, rfl⟩ := array4 (hsz.trans Tryd.cellsDyad)
  obtain ⟨fuel, hf⟩ := h
  obtain ⟨y0, y1, y2, m, _, _, hy0, hy1, hy2⟩ := trod_struct3 Tryd.underlying38 hf
  simp only [Value.cells, Tryd.cellsBool, Tryd.cellsBig, Tryd.cellsInt, List.drop_zero, List.take_succ_cons, List.take_zero, List.drop_succ_cons] at hy0 hy1 hy2
  obtain ⟨bb, e0, _⟩ := DataW.trod_bool Tryd.underlying4 hy0
  simp at e0
  subst e0
  obtain ⟨f, e2, _, wf⟩ := DataW.trod_int Tryd.underlying3 hy2
  simp at e2
  subst e2
  obtain ⟨z0, z1, m', _, _, hz0, hz1⟩ := trod_struct2 Tryd.underlying36 hy1
  simp only [Tryd.cellsBool, Tryd.cellsSl, List.drop_zero, List.take_succ_cons, List.take_zero, List.drop_succ_cons] at hz0 hz1
  obtain ⟨nb, e1, _⟩ := DataW.trod_bool Tryd.underlying4 hz0
  simp at e1
  subst e1
  have hb := bounds_i64 wf
  rcases open_ints Tryd.underlying34 Tryd.underlying75 Tryd.cellsU32 hz1 with ⟨e1, _⟩ | ⟨a, len, cap, zs, e1, _, hl, _, hz, _, hcell, hwz⟩
  · simp at e1
    subst e1
    exact ⟨bb, nb, none, 0, 0, f, rfl, by omega, by omega, fun _ => ⟨[], Sl.nil W⟩⟩
  · simp at e1
    subst e1
    simp only [if_true] at hz
    refine ⟨bb, nb, some a, len, cap, f, rfl, by omega, by omega, fun hb => ⟨zs.take len, by rw [List.length_take, Nat.min_eq_left]; omega, hl, hb, fun z hz => wf_u32 (hwz z (List.mem_of_mem_take hz)), ?_⟩⟩
    intro h0
    rw [List.length_take] at h0
    obtain ⟨b, off, rfl, hc⟩ := ints_at hcell (by omega)
    refine ⟨b, off, rfl, fun j hj => ?_⟩
    rw [List.length_take] at hj
    rw [take_getD zs len j (by omega)]
    exact hc j (by omega)

theorem table_of {rest : List (String × DataW Unit)} {W : World} (h : laidMet Tryd.prog (("math/bits.deBruijn32tab", Rows.laid_math_bits_deBruijn32tab) :: rest) W) : Table W := by
  have h1 : Lib.TabIs Tryd.prog W "math/bits.deBruijn32tab" .u8 (Lib.deBruijn32tab.map fun (n : Nat) => (n : Int)) :=
    Lib.tabIs_of_head (g := 2) (t := 99) (e := 5) (n := 32) (rest := rest) (by kernel_rfl) (by kernel_rfl) (by kernel_rfl) (by kernel_rfl) (by kernel_rfl) (by kernel_rfl) h
  intro j hj
  have h2 := h1.cell (g := 2) (by kernel_rfl) j (by simpa using hj)
  rw [h2]
  simp [List.getD, hj]
end Go.Proofs.YtfgmkeiiidckbaaDoor

namespace Go.Proofs.YtfgmkeiiidckbaaDoor
theorem Tryd.readFloat : Tryd.prog.readableRec 23 = true := by kernel_rfl
theorem Tryd.sizeFloat : 23 < Tryd.prog.types.size := of_decide_eq_true (by kernel_rfl)
theorem Tryd.readInt' : Tryd.prog.readableRec 3 = true := by kernel_rfl
end Go.Proofs.YtfgmkeiiidckbaaDoor

namespace Go.Proofs.YtfgmkeiiidckbaaDoor
open Go.ChangeShapes Go.WideShapes Go.ChangeAt Go.RowKit Go.Joins Go.Deep

theorem Tryd.cellsInterval : Tryd.prog.cellsOf 25 = 2 := by kernel_rfl
theorem Tryd.cellsFloat : Tryd.prog.cellsOf 23 = 1 := by kernel_rfl
theorem Tryd.readInterval : Tryd.prog.readableRec 25 = true := by kernel_rfl
theorem Tryd.sizeInterval : 25 < Tryd.prog.types.size := of_decide_eq_true (by kernel_rfl)

set_option maxRecDepth 100000 in
/-- an interval that came in -/
theorem raw_interval {H : Type} {enc : TypeId × Value → H} {W : World} {base : Nat} {v : Value} {d : DataW H} {p : List MemPlace} (hv : Value.okWide Tryd.prog W .any base 25 v)
    (h : DataW.Trod enc Tryd.prog W 0 (fun _ => true) true 25 v d p) : ∃ lo hi : Int, v = .agg #[.int .u64 lo, .int .u64 hi] ∧ (0 ≤ lo ∧ lo < 18446744073709551616) ∧ (0 ≤ hi ∧ hi < 18446744073709551616) := by
  obtain ⟨cs, rfl, hsz⟩ := okWide_struct Tryd.underlying25 hv
  obtain ⟨c0, c1, rfl⟩ := array2 (hsz.trans Tryd.cellsInterval)
  obtain ⟨fuel, hf⟩ := h
  obtain ⟨z0, z1, m', _, _, hz0, hz1⟩ := trod_struct2 Tryd.underlying25 hf
  simp only [Value.cells, Tryd.cellsFloat, List.drop_zero, List.take_succ_cons, List.take_zero, List.drop_succ_cons] at hz0 hz1
  obtain ⟨lo, e0, _, w0⟩ := DataW.trod_int Tryd.underlying23 hz0
  simp at e0
  subst e0
  obtain ⟨hi, e1, _, w1⟩ := DataW.trod_int Tryd.underlying23 hz1
  simp at e1
  subst e1
  have b0 := bounds_u64 w0
  have b1 := bounds_u64 w1
  exact ⟨lo, hi, rfl, by omega, by omega⟩
end Go.Proofs.YtfgmkeiiidckbaaDoor

namespace Go.Proofs.YtfgmkeiiidckbaaDoor
open Go.RowKit

theorem bad_lit : validF 9218868437227405312 9218868437227405312 = false ∧ finB 9221120237041090560 = false := by decide

set_option maxRecDepth 100000 in
set_option maxHeartbeats 20000000 in
theorem iwhole_any (a b c d : Nat) (ha : a < 18446744073709551616) (hb : b < 18446744073709551616) (hc : c < 18446744073709551616) (hd : d < 18446744073709551616) (w : World) (hT : Table w) :
    Calls Tryd.prog 4 #[.agg #[.int .u64 (a : Int), .int .u64 (b : Int)], .agg #[.int .u64 (c : Int), .int .u64 (d : Int)]] w fun e w' => e = .returned (.bool true) ∧ Ext w w' := by
  obtain ⟨l1, l2⟩ := bad_lit
  have A1 : ∀ w, Calls Tryd.prog 9 #[.agg #[.int .u64 (a : Int), .int .u64 (b : Int)], .agg #[.int .u64 9218868437227405312, .int .u64 9218868437227405312]] w fun e w' => e = .returned (.agg #[.int .u64 18442240474082181120, .int .u64 9218868437227405312]) ∧ Ext w w' := iadd_no a b 9218868437227405312 9218868437227405312 ha hb (by decide) (by decide) (Or.inr l1)
  have A2 : ∀ w, Calls Tryd.prog 11 #[.agg #[.int .u64 9218868437227405312, .int .u64 9218868437227405312], .agg #[.int .u64 (c : Int), .int .u64 (d : Int)]] w fun e w' => e = .returned (.agg #[.int .u64 18442240474082181120, .int .u64 9218868437227405312]) ∧ Ext w w' := imul_no 9218868437227405312 9218868437227405312 c d (by decide) (by decide) hc hd (Or.inl l1)
  have A3 : ∀ w, Calls Tryd.prog 12 #[.agg #[.int .u64 (a : Int), .int .u64 (b : Int)], .agg #[.int .u64 9218868437227405312, .int .u64 9218868437227405312]] w fun e w' => e = .returned (.agg #[.int .u64 18442240474082181120, .int .u64 9218868437227405312]) ∧ Ext w w' := idiv_no a b 9218868437227405312 9218868437227405312 ha hb (by decide) (by decide) (Or.inr (Or.inl l1))
  have A4 : ∀ w, Calls Tryd.prog 15 #[.agg #[.int .u64 9218868437227405312, .int .u64 9218868437227405312]] w fun e w' => e = .returned (.agg #[.int .u64 18442240474082181120, .int .u64 9218868437227405312]) ∧ Ext w w' := isqrt_no 9218868437227405312 9218868437227405312 (by decide) (by decide) l1
  have A5 : ∀ w, Calls Tryd.prog 14 #[.agg #[.int .u64 (a : Int), .int .u64 (b : Int)], .agg #[.int .u64 9218868437227405312, .int .u64 9218868437227405312]] w fun e w' => e = .returned (.agg #[.int .u64 18442240474082181120, .int .u64 9218868437227405312]) ∧ Ext w w' := ihull_no a b 9218868437227405312 9218868437227405312 ha hb (by decide) (by decide) (Or.inr l1)
  have A6 : ∀ w, Calls Tryd.prog 16 #[.int .u64 9221120237041090560] w fun e w' => e = .returned (.agg #[.int .u64 18442240474082181120, .int .u64 9218868437227405312]) ∧ Ext w w' := point_any 9221120237041090560 (by decide) _ (by rw [l2]; rfl)
  have A1 := Lib.hid A1; have A2 := Lib.hid A2; have A3 := Lib.hid A3; have A4 := Lib.hid A4; have A5 := Lib.hid A5; have A6 := Lib.hid A6
  obtain ⟨p, hp⟩ : ∃ p, contB c d (some (0, 0)) = p := ⟨_, rfl⟩
  have A7 := Lib.hid (fun v w h hT => refContains_any c d hc hd v (some (0, 0)) p hp w h hT)
  have A8 := Lib.hid (fun (h : p = true) => idiv_no a b c d ha hb hc hd (Or.inr (Or.inr (cont_zero hc hd (by rw [hp]; exact h)))))
  have A9 := Lib.hid (fun w hT => refDFromInt_any 0 w (by decide) (by decide) hT)
  have HT := Lib.hid hT
  clear hp ha hb hc hd hT l1 l2
  go_enter Tryd.func4, Tryd.ntmps4
  go_upto_region 1 with fail
  obtain ⟨W, hW, hB, hx, hy, hsz⟩ := ibox_two w a b c d
  rw [← hW]
  clear hW
  have HB := Lib.hid hB
  generalize w.heap.size = B at hx hy ⊢
  clear hB hsz
  go_upto_region 3 with fail
  obtain ⟨V, hV, hE, hz, hu, hsz⟩ := ibox_two W 18442240474082181120 9218868437227405312 9218868437227405312 9218868437227405312
  rw [← hV]
  clear hV
  have hx := hx.below hE
  have hy := hy.below hE
  have HB := Lib.hid (HB.out.trans hE)
  have HTV := Lib.hid (show ∀ wx, Ext V wx → Table wx from fun wx h => (HT.out.below HB.out).below h)
  generalize W.heap.size = D at hz hu ⊢
  clear hE hsz
  have HC := Lib.hid (show ∀ wx, Ext V wx → (wx.cell? ⟨B, 0, none⟩ = some (.int .u64 (a : Int)) ∧ wx.cell? ⟨B, 1, none⟩ = some (.int .u64 (b : Int))) ∧ (wx.cell? ⟨B + 1, 0, none⟩ = some (.int .u64 (c : Int)) ∧ wx.cell? ⟨B + 1, 1, none⟩ = some (.int .u64 (d : Int))) ∧ (wx.cell? ⟨D, 0, none⟩ = some (.int .u64 18442240474082181120) ∧ wx.cell? ⟨D, 1, none⟩ = some (.int .u64 9218868437227405312)) ∧ (wx.cell? ⟨D + 1, 0, none⟩ = some (.int .u64 9218868437227405312) ∧ wx.cell? ⟨D + 1, 1, none⟩ = some (.int .u64 9218868437227405312)) from fun wx h => ⟨⟨(hx.below h).c0, (hx.below h).c1⟩, ⟨(hy.below h).c0, (hy.below h).c1⟩, ⟨(hz.below h).c0, (hz.below h).c1⟩, (hu.below h).c0, (hu.below h).c1⟩)
  obtain ⟨⟨x0, x1⟩, ⟨y0, y1⟩, ⟨z0, z1⟩, u0, u1⟩ := HC.out V (Ext.refl _)
  have st : Ext V V.drew := ext_drewB' _
  clear hx hy hz hu
  go_region_held3 (fun wx => (wx.cell? ⟨B, 0, none⟩ = some (.int .u64 (a : Int)) ∧ wx.cell? ⟨B, 1, none⟩ = some (.int .u64 (b : Int))) ∧ (wx.cell? ⟨B + 1, 0, none⟩ = some (.int .u64 (c : Int)) ∧ wx.cell? ⟨B + 1, 1, none⟩ = some (.int .u64 (d : Int))) ∧ (wx.cell? ⟨D, 0, none⟩ = some (.int .u64 18442240474082181120) ∧ wx.cell? ⟨D, 1, none⟩ = some (.int .u64 9218868437227405312)) ∧ (wx.cell? ⟨D + 1, 0, none⟩ = some (.int .u64 9218868437227405312) ∧ wx.cell? ⟨D + 1, 1, none⟩ = some (.int .u64 9218868437227405312)))
    (first | exact HC.out _ (by assumption))
    (first
      | (go_at_call 9; (with_reducible refine (A1.out _).mono ?_); rintro r wn ⟨rfl, hE⟩; have st : Ext V wn := Ext.trans (by assumption) hE; clear hE)
      | (go_at_call 11; (with_reducible refine (A2.out _).mono ?_); rintro r wn ⟨rfl, hE⟩; have st : Ext V wn := Ext.trans (by assumption) hE; clear hE)
      | (go_at_call 12; (with_reducible refine (A3.out _).mono ?_); rintro r wn ⟨rfl, hE⟩; have st : Ext V wn := Ext.trans (by assumption) hE; clear hE)
      | (go_at_call 15; (with_reducible refine (A4.out _).mono ?_); rintro r wn ⟨rfl, hE⟩; have st : Ext V wn := Ext.trans (by assumption) hE; clear hE)
      | (go_at_call 14; (with_reducible refine (A5.out _).mono ?_); rintro r wn ⟨rfl, hE⟩; have st : Ext V wn := Ext.trans (by assumption) hE; clear hE)
      | (go_at_call 16; (with_reducible refine (A6.out _).mono ?_); rintro r wn ⟨rfl, hE⟩; have st : Ext V wn := Ext.trans (by assumption) hE; clear hE))
  go_upto_region 5 with fail
  have st0 := st
  have stq : Ext V _ := Ext.trans st (ext_drewB' _)
  clear x0 x1 y0 y1 z0 z1 u0 u1
  cases p with
  | false =>
    obtain ⟨⟨x0, x1⟩, ⟨y0, y1⟩, ⟨z0, z1⟩, u0, u1⟩ := HC.out _ st0
    first | (go_region_with (first
        | (go_at_call 18; (with_reducible refine (A9.out _ (HTV.out _ (by assumption))).mono ?_); rintro r wn ⟨v, rfl, hv, hE⟩; rw [dmk_zero] at hv; have st : Ext V wn := Ext.trans (by assumption) hE; clear hE; obtain ⟨⟨x0, x1⟩, ⟨y0, y1⟩, ⟨z0, z1⟩, u0, u1⟩ := HC.out wn st)
        | (go_at_call 17; (with_reducible refine (A7.out _ _ hv.dl (HTV.out _ (by assumption))).mono ?_); rintro r wn ⟨rfl, hE⟩; have st : Ext V wn := Ext.trans (by assumption) hE; clear hE; obtain ⟨⟨x0, x1⟩, ⟨y0, y1⟩, ⟨z0, z1⟩, u0, u1⟩ := HC.out wn st))) | fail "no walk"
    all_goals
      go_wp2_with fail
      refine (iawake_any _).mono ?_
      rintro r wn ⟨rfl, hE⟩
      have EX := Lib.hid (HB.out.trans (Ext.trans (by assumption) hE))
      go_wp2
      go_ret
      exact ⟨rfl, EX.out⟩
  | true =>
    go_region_held3 (fun wx => (wx.cell? ⟨B, 0, none⟩ = some (.int .u64 (a : Int)) ∧ wx.cell? ⟨B, 1, none⟩ = some (.int .u64 (b : Int))) ∧ (wx.cell? ⟨B + 1, 0, none⟩ = some (.int .u64 (c : Int)) ∧ wx.cell? ⟨B + 1, 1, none⟩ = some (.int .u64 (d : Int))) ∧ (wx.cell? ⟨D, 0, none⟩ = some (.int .u64 18442240474082181120) ∧ wx.cell? ⟨D, 1, none⟩ = some (.int .u64 9218868437227405312)) ∧ (wx.cell? ⟨D + 1, 0, none⟩ = some (.int .u64 9218868437227405312) ∧ wx.cell? ⟨D + 1, 1, none⟩ = some (.int .u64 9218868437227405312)))
      (first | exact HC.out _ (by assumption))
      (first
        | (go_at_call 18; (with_reducible refine (A9.out _ (HTV.out _ (by assumption))).mono ?_); rintro r wn ⟨v, rfl, hv, hE⟩; rw [dmk_zero] at hv; have st : Ext V wn := Ext.trans (by assumption) hE; clear hE)
        | (go_at_call 17; (with_reducible refine (A7.out _ _ hv.dl (HTV.out _ (by assumption))).mono ?_); rintro r wn ⟨rfl, hE⟩; have st : Ext V wn := Ext.trans (by assumption) hE; clear hE)
        | (go_at_call 12; (with_reducible refine (A8.out (by first | rfl | trivial) _).mono ?_); rintro r wn ⟨rfl, hE⟩; have st : Ext V wn := Ext.trans (by assumption) hE; clear hE))
    go_wp2_with fail
    refine (iawake_any _).mono ?_
    rintro r wn ⟨rfl, hE⟩
    have EX := Lib.hid (HB.out.trans (Ext.trans (by assumption) hE))
    go_wp2
    go_ret
    exact ⟨rfl, EX.out⟩

theorem iwhole_int (a b c d : Int) (W : World) (ha : 0 ≤ a ∧ a < 18446744073709551616) (hb : 0 ≤ b ∧ b < 18446744073709551616) (hc : 0 ≤ c ∧ c < 18446744073709551616) (hd : 0 ≤ d ∧ d < 18446744073709551616) (hT : Table W) :
    Calls Tryd.prog 4 #[.agg #[.int .u64 a, .int .u64 b], .agg #[.int .u64 c, .int .u64 d]] W fun e w' => e = .returned (.bool true) ∧ Ext W w' := by
  have h := iwhole_any a.toNat b.toNat c.toNat d.toNat (by omega) (by omega) (by omega) (by omega) W hT
  rw [Int.toNat_of_nonneg ha.1, Int.toNat_of_nonneg hb.1, Int.toNat_of_nonneg hc.1, Int.toNat_of_nonneg hd.1] at h
  exact h
end Go.Proofs.YtfgmkeiiidckbaaDoor

namespace Go.Proofs.YtfgmkeiiidckbaaDoor.IntervalWhole
open Go.ChangeShapes Go.WideShapes Go.ChangeAt Go.RowKit

set_option maxRecDepth 100000 in
theorem contract (H : Type) (enc : TypeId × Value → H) (W : World) (base : Nat) (args : Array Value) (ds gs : List (DataW H)) (before : List MemPlace)
    (hval0 : ∀ (j : Nat) t v, Tryd.f4.params[j]? = some t → args[j]? = some v → Value.okWide Tryd.prog W .any base t v)
    (hW : DataW.Whole enc Tryd.prog Tryd.f4.params.toList Rows.intervalWholeSpec.vars false W args.toList ds gs before) (hT : Table W) :
    Calls Tryd.prog 4 args W fun e W' => ∃ v, e = .returned v ∧ Rows.intervalWholeSpec.post enc Tryd.prog Tryd.f4 false true false false W args v W' := by
  have hW' := hW
  obtain ⟨p, q, hA0, hV, rfl, hfz, hnd⟩ := hW
  have hlt : ∀ x ∈ p, x.block < W.heap.size := fun x hx => hW'.lt x (by simp [hx])
  have hA : DataW.TrodAll enc Tryd.prog W 0 (fun _ => true) true Tryd.f4.params.toList args.toList ds p := hA0
  have hval := hval0
  rw [Tryd.params4] at hA hval
  obtain ⟨v0, v1, d0, d1, p0, p1, rfl, rfl, rfl, h0, h1⟩ := trodAll_two hA
  obtain ⟨rfl, rfl⟩ := trodVars_none hV
  obtain ⟨lo0, hi0, rfl, r0⟩ := raw_interval (hval 0 25 v0 rfl rfl) h0
  obtain ⟨lo1, hi1, rfl, r1⟩ := raw_interval (hval 1 25 v1 rfl rfl) h1
  clear hA0 hval0
  refine (iwhole_int lo0 hi0 lo1 hi1 W r0.1 r0.2 r1.1 r1.2 hT).mono fun e W' ⟨he, hb⟩ => ?_
  subst he
  refine ⟨_, rfl, _, _, _, [], p0 ++ p1, [], hW', trodAll_mk1 (shut_bool Tryd.underlying4 _), ?_, rfl, hb.frame _, fun h => by cases h⟩
  exact trodAll_mk2 (Below.trod Tryd.laidOut Tryd.readInterval Tryd.sizeInterval h0 hb (fun x hx => hlt x (by simp [hx]))) (Below.trod Tryd.laidOut Tryd.readInterval Tryd.sizeInterval h1 hb (fun x hx => hlt x (by simp [hx])))

/-- an input that fits: zeros -/
def zeros : Array Value := #[.agg #[.int .u64 0, .int .u64 0], .agg #[.int .u64 0, .int .u64 0]]
theorem reads (os : Os) {H : Type} (enc : TypeId × Value → H) : ∃ places, DataW.whole enc Tryd.prog ((World.doorLaid Tryd.prog 400 os).forCall (fun _ _ => 0) ⟨#[], zeros, []⟩).memory Tryd.f4.params.toList Rows.intervalWholeSpec.vars false zeros.toList 8 =
    some ([.agg [.lit (.int .u64 0), .lit (.int .u64 0)], .agg [.lit (.int .u64 0), .lit (.int .u64 0)]], [], places) :=
  ⟨[], by kernel_rfl⟩
theorem laid_met (os : Os) : laidMet Tryd.prog Rows.intervalWholeRow.laid ((World.doorLaid Tryd.prog 400 os).forCall (fun _ _ => 0) ⟨#[], zeros, []⟩).memory :=
  laidMet_of_run' 8 (by kernel_rfl) (by kernel_rfl)

set_option maxRecDepth 100000 in
theorem lifted (os : Os) (started : os.Started) (H : Type) (enc : TypeId × Value → H) (F : Stop.Interp) :
    ReturnsInHanded {} Tryd.checked os 4 .any ((OpenSpec.ofChange Rows.intervalWholeSpec).preRow enc Tryd.prog Tryd.f4 Rows.intervalWholeRow.domain false Rows.intervalWholeRow.laid) (((OpenSpec.ofChange Rows.intervalWholeSpec).at F).post enc Tryd.prog Tryd.f4 false true false false) := by
  obtain ⟨places, hx⟩ := reads os enc
  refine returnsInHanded_of_row (C := Tryd.checked) (s := OpenSpec.ofChange Rows.intervalWholeSpec) Tryd.own started (by kernel_rfl) Tryd.func4
    (witness_row_at (enc := enc) (C := Tryd.checked) false (World.doorLaid Tryd.prog 400 os) zeros rfl (by kernel_rfl) (by kernel_rfl) (by kernel_rfl)
      (OpenSpec.preRow_of_cond 8 hx (by kernel_rfl) (fun k hk => by cases hk) (by kernel_rfl) (laid_met os))) ?_
  intro W base args ds gs before hval hW _ _ _ hl _ _
  exact contract H enc W base args ds gs before hval hW (table_of hl)

theorem said : Rows.IntervalWholeSaid :=
  OpenClaim.holds_of_cond 4 Tryd.f4 rfl rfl rfl rfl rfl rfl rfl ⟨rfl, rfl, rfl, rfl, rfl⟩ rfl rfl rfl rfl rfl (by kernel_rfl) Tryd.func4 (by kernel_rfl)
    (of_decide_eq_true (by kernel_rfl)) (by unfold Func.isWrapper; first | (rw [if_pos (by decide +kernel)]; kernel_rfl) | (rw [if_neg (by decide +kernel)]; exact ⟨rfl, rfl⟩))
    (fun os started H enc _ F => by rw [OpenClaim.pre_eq_preRow]; exact lifted os started H enc F)

theorem plain (f : FuncId) (fn : Func) (hf : Tryd.pinned.checked.prog.funcNamed "sparse/sparselaw05.IntervalWhole" = some f) (hfn : Tryd.pinned.checked.prog.funcs[f]? = some fn) :
    false = Tryd.pinned.checked.prog.looks [] ∧ ∀ (j : Nat) t, fn.params[j]? = some t → Tryd.pinned.checked.prog.wantsStandIn t = false := by
  obtain rfl : f = 4 := Option.some.inj ((show Tryd.prog.funcNamed "sparse/sparselaw05.IntervalWhole" = some 4 by kernel_rfl).symm.trans hf) |>.symm
  obtain rfl : fn = Tryd.f4 := (Option.some.inj (Tryd.func4.symm.trans hfn)).symm
  refine ⟨by kernel_rfl, fun j t ht => ?_⟩
  rw [Tryd.params4] at ht
  have hm : t ∈ [25, 25] := by simpa using Array.mem_of_getElem? ht
  have hall : ([25, 25].all fun u => !Tryd.prog.wantsStandIn u) = true := by kernel_rfl
  exact (show Tryd.prog.wantsStandIn t = false by simpa using List.all_eq_true.1 hall t hm)

/-- the card -/
theorem card : Rows.IntervalWholeCardSaid :=
  Claim7.holds_tied_plain_at .later [] _ _ _ _ said (fun _ h => by cases h) (by kernel_rfl) (fun _ h => by cases h) intervalWhole_row_tie rfl ⟨rfl, rfl⟩ (by kernel_rfl) rfl plain (by kernel_rfl)
end Go.Proofs.YtfgmkeiiidckbaaDoor.IntervalWhole
namespace Go.Proofs.YtfgmkeiiidckbaaDoor
theorem intervalWhole_card : Rows.IntervalWholeCardSaid := IntervalWhole.card
end Go.Proofs.YtfgmkeiiidckbaaDoor
