/- The statement about FloatMonotone is proved for every input: rounding keeps the order of numbers, in every mode, and so do sums with the same number. No condition. -/
import Derived.Test.YtijbdfcenbekmaaDoorCRawF
import Derived.Test.YtijbdfcenbekmaaDoorCFMonoL
namespace Go.Proofs.YtijbdfcenbekmaaDoor.FloatMonotone
open Go.ChangeShapes Go.WideShapes Go.ChangeAt Go.RowKit

set_option maxRecDepth 100000 in
theorem contract (H : Type) (enc : TypeId × Value → H) (W : World) (base : Nat) (args : Array Value) (ds gs : List (DataW H)) (before : List MemPlace)
    (hval0 : ∀ (j : Nat) t v, Tryd.f4.params[j]? = some t → args[j]? = some v → Value.okWide Tryd.prog W .any base t v)
    (hW : DataW.Whole enc Tryd.prog Tryd.f4.params.toList Rows.floatMonotoneSpec.vars false W args.toList ds gs before) (hT : Table W) :
    Calls Tryd.prog 4 args W fun e W' => ∃ v, e = .returned v ∧ Rows.floatMonotoneSpec.post enc Tryd.prog Tryd.f4 false true false false W args v W' := by
  have hW' := hW
  obtain ⟨p, q, hA0, hV, rfl, hfz, hnd⟩ := hW
  have hlt : ∀ x ∈ p, x.block < W.heap.size := fun x hx => hW'.lt x (by simp [hx])
  have hA : DataW.TrodAll enc Tryd.prog W 0 (fun _ => true) true Tryd.f4.params.toList args.toList ds p := hA0
  have hval := hval0
  rw [Tryd.params4] at hA hval
  obtain ⟨v0, vs0, d0, ds0, p0, q0, hargs, rfl, rfl, h0, t0⟩ := trodAll_cons hA
  obtain ⟨v1, vs1, d1, ds1, p1, q1, rfl, rfl, rfl, h1, t1⟩ := trodAll_cons t0
  obtain ⟨v2, vs2, d2, ds2, p2, q2, rfl, rfl, rfl, h2, t2⟩ := trodAll_cons t1
  obtain ⟨v3, vs3, d3, ds3, p3, q3, rfl, rfl, rfl, h3, t3⟩ := trodAll_cons t2
  obtain ⟨v4, vs4, d4, ds4, p4, q4, rfl, rfl, rfl, h4, t4⟩ := trodAll_cons t3
  obtain ⟨v5, vs5, d5, ds5, p5, q5, rfl, rfl, rfl, h5, t5⟩ := trodAll_cons t4
  obtain ⟨rfl, rfl, rfl⟩ := trodAll_nil t5
  obtain rfl : args = #[v0, v1, v2, v3, v4, v5] := by cases args; simp_all
  obtain ⟨rfl, rfl⟩ := trodVars_none hV
  obtain ⟨b0, n0, o0, k0, c0, f0, rfl, r0⟩ := raw_dyad (hval 0 26 v0 rfl rfl) h0
  obtain ⟨b1, n1, o1, k1, c1, f1, rfl, r1⟩ := raw_dyad (hval 1 26 v1 rfl rfl) h1
  obtain ⟨i2, rfl, _, w2⟩ := open_int Tryd.underlying38 (hval 2 38 v2 rfl rfl) h2
  have w2 := bounds_u64 w2.2
  obtain ⟨i3, rfl, _, w3⟩ := open_int Tryd.underlying38 (hval 3 38 v3 rfl rfl) h3
  have w3 := bounds_u64 w3.2
  obtain ⟨i4, rfl, _, w4⟩ := open_int Tryd.underlying38 (hval 4 38 v4 rfl rfl) h4
  have w4 := bounds_u64 w4.2
  obtain ⟨i5, rfl, _, w5⟩ := open_int Tryd.underlying3 (hval 5 3 v5 rfl rfl) h5
  have w5 := bounds_i64 w5.2
  clear hA0 hval0
  refine (fmonotone_int b0 n0 o0 k0 c0 f0 b1 n1 o1 k1 c1 f1 i2 i3 i4 i5 (by omega) (by omega) (by omega) (by omega) (by omega) (by omega) W r0 r1 hT).mono fun e W' ⟨he, hb⟩ => ?_
  subst he
  refine ⟨_, rfl, _, _, _, [], p0 ++ (p1 ++ (p2 ++ (p3 ++ (p4 ++ (p5 ++ []))))), [], hW', trodAll_mk1 (shut_bool Tryd.underlying4 _), ?_, rfl, hb.frame _, fun h => by cases h⟩
  exact ⟨p0, _, (Below.trod Tryd.laidOut Tryd.readDyad Tryd.sizeDyad h0 hb (fun x hx => hlt x (by simp [hx]))), ⟨p1, _, (Below.trod Tryd.laidOut Tryd.readDyad Tryd.sizeDyad h1 hb (fun x hx => hlt x (by simp [hx]))), ⟨p2, _, (Below.trod Tryd.laidOut Tryd.readFloat Tryd.sizeFloat h2 hb (fun x hx => hlt x (by simp [hx]))), ⟨p3, _, (Below.trod Tryd.laidOut Tryd.readFloat Tryd.sizeFloat h3 hb (fun x hx => hlt x (by simp [hx]))), ⟨p4, _, (Below.trod Tryd.laidOut Tryd.readFloat Tryd.sizeFloat h4 hb (fun x hx => hlt x (by simp [hx]))), ⟨p5, _, (Below.trod Tryd.laidOut Tryd.readInt Tryd.sizeInt h5 hb (fun x hx => hlt x (by simp [hx]))), rfl, rfl⟩, rfl⟩, rfl⟩, rfl⟩, rfl⟩, rfl⟩

/-- an input that fits: zeros -/
def zeros : Array Value := #[.agg #[.bool false, .bool false, .slice none 0 0, .int .i64 0], .agg #[.bool false, .bool false, .slice none 0 0, .int .i64 0], .int .u64 0, .int .u64 0, .int .u64 0, .int .i64 0]
theorem reads (os : Os) {H : Type} (enc : TypeId × Value → H) : ∃ places, DataW.whole enc Tryd.prog ((World.doorLaid Tryd.prog 400 os).forCall (fun _ _ => 0) ⟨#[], zeros, []⟩).memory Tryd.f4.params.toList Rows.floatMonotoneSpec.vars false zeros.toList 8 =
    some ([.agg [.lit (.bool false), .agg [.lit (.bool false), .nil], .lit (.int .i64 0)], .agg [.lit (.bool false), .agg [.lit (.bool false), .nil], .lit (.int .i64 0)], .lit (.int .u64 0), .lit (.int .u64 0), .lit (.int .u64 0), .lit (.int .i64 0)], [], places) :=
  ⟨[], by kernel_rfl⟩
theorem laid_met (os : Os) : laidMet Tryd.prog Rows.floatMonotoneRow.laid ((World.doorLaid Tryd.prog 400 os).forCall (fun _ _ => 0) ⟨#[], zeros, []⟩).memory :=
  laidMet_of_run' 8 (by kernel_rfl) (by kernel_rfl)

set_option maxRecDepth 100000 in
theorem lifted (os : Os) (started : os.Started) (H : Type) (enc : TypeId × Value → H) (F : Stop.Interp) :
    ReturnsInHanded {} Tryd.checked os 4 .any ((OpenSpec.ofChange Rows.floatMonotoneSpec).preRow enc Tryd.prog Tryd.f4 Rows.floatMonotoneRow.domain false Rows.floatMonotoneRow.laid) (((OpenSpec.ofChange Rows.floatMonotoneSpec).at F).post enc Tryd.prog Tryd.f4 false true false false) := by
  obtain ⟨places, hx⟩ := reads os enc
  refine returnsInHanded_of_row (C := Tryd.checked) (s := OpenSpec.ofChange Rows.floatMonotoneSpec) Tryd.own started (by kernel_rfl) Tryd.func4
    (witness_row_at (enc := enc) (C := Tryd.checked) false (World.doorLaid Tryd.prog 400 os) zeros rfl (by kernel_rfl) (by kernel_rfl) (by kernel_rfl)
      (OpenSpec.preRow_of_cond 8 hx (by kernel_rfl) (fun k hk => by cases hk) (by kernel_rfl) (laid_met os))) ?_
  intro W base args ds gs before hval hW _ _ _ hl _ _
  exact contract H enc W base args ds gs before hval hW (table_of hl)

theorem said : Rows.FloatMonotoneSaid :=
  OpenClaim.holds_of_cond 4 Tryd.f4 rfl rfl rfl rfl rfl rfl rfl ⟨rfl, rfl, rfl, rfl, rfl⟩ rfl rfl rfl rfl rfl (by kernel_rfl) Tryd.func4 (by kernel_rfl)
    (of_decide_eq_true (by kernel_rfl)) (by unfold Func.isWrapper; first | (rw [if_pos (by decide +kernel)]; kernel_rfl) | (rw [if_neg (by decide +kernel)]; exact ⟨rfl, rfl⟩))
    (fun os started H enc _ F => by rw [OpenClaim.pre_eq_preRow]; exact lifted os started H enc F)

theorem plain (f : FuncId) (fn : Func) (hf : Tryd.pinned.checked.prog.funcNamed "sparse/sparselaw03.FloatMonotone" = some f) (hfn : Tryd.pinned.checked.prog.funcs[f]? = some fn) :
    false = Tryd.pinned.checked.prog.looks [] ∧ ∀ (j : Nat) t, fn.params[j]? = some t → Tryd.pinned.checked.prog.wantsStandIn t = false := by
  obtain rfl : f = 4 := Option.some.inj ((show Tryd.prog.funcNamed "sparse/sparselaw03.FloatMonotone" = some 4 by kernel_rfl).symm.trans hf) |>.symm
  obtain rfl : fn = Tryd.f4 := (Option.some.inj (Tryd.func4.symm.trans hfn)).symm
  refine ⟨by kernel_rfl, fun j t ht => ?_⟩
  rw [Tryd.params4] at ht
  have hm : t ∈ [26, 26, 38, 38, 38, 3] := by simpa using Array.mem_of_getElem? ht
  have hall : ([26, 26, 38, 38, 38, 3].all fun u => !Tryd.prog.wantsStandIn u) = true := by kernel_rfl
  exact (show Tryd.prog.wantsStandIn t = false by simpa using List.all_eq_true.1 hall t hm)

/-- the card -/
theorem card : Rows.FloatMonotoneCardSaid :=
  Claim7.holds_tied_plain_at .later [] _ _ _ _ said (fun _ h => by cases h) (by kernel_rfl) (fun _ h => by cases h) floatMonotone_row_tie rfl ⟨rfl, rfl⟩ (by kernel_rfl) rfl plain (by kernel_rfl)
end Go.Proofs.YtijbdfcenbekmaaDoor.FloatMonotone
namespace Go.Proofs.YtijbdfcenbekmaaDoor
theorem floatMonotone_card : Rows.FloatMonotoneCardSaid := FloatMonotone.card
end Go.Proofs.YtijbdfcenbekmaaDoor
