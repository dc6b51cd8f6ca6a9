/- The statement about IntervalHolds is proved for every input: if a is in x and b in y, the exact sum, difference, product, square and quotient are in the results. No condition. -/
import Derived.Test.YtekocoklfnojmaaGreatDoorIHoldsU2
import Derived.Test.YtekocoklfnojmaaGreatDoorIHoldsU27
import Derived.Test.YtekocoklfnojmaaGreatDoorIHoldsU47
namespace Go.Proofs.YtekocoklfnojmaaGreatDoor.IntervalHolds
open Go.ChangeShapes Go.WideShapes Go.ChangeAt Go.RowKit

set_option maxRecDepth 100000 in
theorem contract (H : Type) (enc : TypeId × Value → H) (W : World) (base : Nat) (args : Array Value) (ds gs : List (DataW H)) (before : List MemPlace)
    (hval0 : ∀ (j : Nat) t v, Tryz.f5.params[j]? = some t → args[j]? = some v → Value.okWide Tryz.prog W .any base t v)
    (hW : DataW.Whole enc Tryz.prog Tryz.f5.params.toList Rows.intervalHoldsSpec.vars false W args.toList ds gs before) (hT : Table W) (hT6 : Table64 W) :
    Calls Tryz.prog 5 args W fun e W' => ∃ v, e = .returned v ∧ Rows.intervalHoldsSpec.post enc Tryz.prog Tryz.f5 false true false false W args v W' := by
  have hW' := hW
  obtain ⟨p, q, hA0, hV, rfl, hfz, hnd⟩ := hW
  have hlt : ∀ x ∈ p, x.block < W.heap.size := fun x hx => hW'.lt x (by simp [hx])
  have hA : DataW.TrodAll enc Tryz.prog W 0 (fun _ => true) true Tryz.f5.params.toList args.toList ds p := hA0
  have hval := hval0
  rw [Tryz.params5] at hA hval
  obtain ⟨v0, v1, v2, v3, d0, d1, d2, d3, p0, p1, p2, p3, rfl, rfl, rfl, h0, h1, h2, h3⟩ := trodAll_four hA
  obtain ⟨rfl, rfl⟩ := trodVars_none hV
  obtain ⟨lo0, hi0, rfl, r0⟩ := raw_interval (hval 0 25 v0 rfl rfl) h0
  obtain ⟨lo1, hi1, rfl, r1⟩ := raw_interval (hval 1 25 v1 rfl rfl) h1
  obtain ⟨i2, rfl, _, w2⟩ := open_int Tryz.underlying23 (hval 2 23 v2 rfl rfl) h2
  have w2 := bounds_u64 w2.2
  obtain ⟨i3, rfl, _, w3⟩ := open_int Tryz.underlying23 (hval 3 23 v3 rfl rfl) h3
  have w3 := bounds_u64 w3.2
  clear hA0 hval0
  refine (iholdsL_int lo0 hi0 lo1 hi1 i2 i3 W r0.1 r0.2 r1.1 r1.2 ⟨w2.1, by omega⟩ ⟨w3.1, by omega⟩ hT hT6).mono fun e W' ⟨he, hb⟩ => ?_
  subst he
  refine ⟨_, rfl, _, _, _, [], p0 ++ (p1 ++ (p2 ++ p3)), [], hW', trodAll_mk1 (shut_bool Tryz.underlying4 _), ?_, rfl, hb.frame _, fun h => by cases h⟩
  exact trodAll_mk4 (Below.trod Tryz.laidOut Tryz.readInterval Tryz.sizeInterval h0 hb (fun x hx => hlt x (by simp [hx]))) (Below.trod Tryz.laidOut Tryz.readInterval Tryz.sizeInterval h1 hb (fun x hx => hlt x (by simp [hx]))) (Below.trod Tryz.laidOut Tryz.readFloat Tryz.sizeFloat h2 hb (fun x hx => hlt x (by simp [hx]))) (Below.trod Tryz.laidOut Tryz.readFloat Tryz.sizeFloat h3 hb (fun x hx => hlt x (by simp [hx])))

/-- an input that fits: zeros -/
def zeros : Array Value := #[.agg #[.int .u64 0, .int .u64 0], .agg #[.int .u64 0, .int .u64 0], .int .u64 0, .int .u64 0]
theorem reads (os : Os) {H : Type} (enc : TypeId × Value → H) : ∃ places, DataW.whole enc Tryz.prog ((World.doorLaid Tryz.prog 400 os).forCall (fun _ _ => 0) ⟨#[], zeros, []⟩).memory Tryz.f5.params.toList Rows.intervalHoldsSpec.vars false zeros.toList 8 =
    some ([.agg [.lit (.int .u64 0), .lit (.int .u64 0)], .agg [.lit (.int .u64 0), .lit (.int .u64 0)], .lit (.int .u64 0), .lit (.int .u64 0)], [], places) :=
  ⟨[], by kernel_rfl⟩
theorem laid_met (os : Os) : laidMet Tryz.prog Rows.intervalHoldsRow.laid ((World.doorLaid Tryz.prog 400 os).forCall (fun _ _ => 0) ⟨#[], zeros, []⟩).memory :=
  laidMet_of_run' 8 (by kernel_rfl) (by kernel_rfl)

set_option maxRecDepth 100000 in
theorem lifted (os : Os) (started : os.Started) (H : Type) (enc : TypeId × Value → H) (F : Stop.Interp) :
    ReturnsInHanded {} Tryz.checked os 5 .any ((OpenSpec.ofChange Rows.intervalHoldsSpec).preRow enc Tryz.prog Tryz.f5 Rows.intervalHoldsRow.domain false Rows.intervalHoldsRow.laid) (((OpenSpec.ofChange Rows.intervalHoldsSpec).at F).post enc Tryz.prog Tryz.f5 false true false false) := by
  obtain ⟨places, hx⟩ := reads os enc
  refine returnsInHanded_of_row (C := Tryz.checked) (s := OpenSpec.ofChange Rows.intervalHoldsSpec) Tryz.own started (by kernel_rfl) Tryz.func5
    (witness_row_at (enc := enc) (C := Tryz.checked) false (World.doorLaid Tryz.prog 400 os) zeros rfl (by kernel_rfl) (by kernel_rfl) (by kernel_rfl)
      (OpenSpec.preRow_of_cond 8 hx (by kernel_rfl) (fun k hk => by cases hk) (by kernel_rfl) (laid_met os))) ?_
  intro W base args ds gs before hval hW _ _ _ hl _ _
  exact contract H enc W base args ds gs before hval hW (table_of hl) (table64_of hl)

theorem said : Rows.IntervalHoldsSaid :=
  OpenClaim.holds_of_cond 5 Tryz.f5 rfl rfl rfl rfl rfl rfl rfl ⟨rfl, rfl, rfl, rfl, rfl⟩ rfl rfl rfl rfl rfl (by kernel_rfl) Tryz.func5 (by kernel_rfl)
    (of_decide_eq_true (by kernel_rfl)) (by unfold Func.isWrapper; first | (rw [if_pos (by decide +kernel)]; kernel_rfl) | (rw [if_neg (by decide +kernel)]; exact ⟨rfl, rfl⟩))
    (fun os started H enc _ F => by rw [OpenClaim.pre_eq_preRow]; exact lifted os started H enc F)

theorem plain (f : FuncId) (fn : Func) (hf : Tryz.pinned.checked.prog.funcNamed "sparse/sparselaw05.IntervalHolds" = some f) (hfn : Tryz.pinned.checked.prog.funcs[f]? = some fn) :
    false = Tryz.pinned.checked.prog.looks [] ∧ ∀ (j : Nat) t, fn.params[j]? = some t → Tryz.pinned.checked.prog.wantsStandIn t = false := by
  obtain rfl : f = 5 := Option.some.inj ((show Tryz.prog.funcNamed "sparse/sparselaw05.IntervalHolds" = some 5 by kernel_rfl).symm.trans hf) |>.symm
  obtain rfl : fn = Tryz.f5 := (Option.some.inj (Tryz.func5.symm.trans hfn)).symm
  refine ⟨by kernel_rfl, fun j t ht => ?_⟩
  rw [Tryz.params5] at ht
  have hm : t ∈ [25, 25, 23, 23] := by simpa using Array.mem_of_getElem? ht
  have hall : ([25, 25, 23, 23].all fun u => !Tryz.prog.wantsStandIn u) = true := by kernel_rfl
  exact (show Tryz.prog.wantsStandIn t = false by simpa using List.all_eq_true.1 hall t hm)

/-- the card -/
theorem card : Rows.IntervalHoldsCardSaid :=
  Claim7.holds_tied_plain_at .later [] _ _ _ _ said (fun _ h => by cases h) (by kernel_rfl) (fun _ h => by cases h) intervalHolds_row_tie rfl ⟨rfl, rfl⟩ (by kernel_rfl) rfl plain (by kernel_rfl)
end Go.Proofs.YtekocoklfnojmaaGreatDoor.IntervalHolds
namespace Go.Proofs.YtekocoklfnojmaaGreatDoor
theorem intervalHolds_card : Rows.IntervalHoldsCardSaid := IntervalHolds.card
end Go.Proofs.YtekocoklfnojmaaGreatDoor
