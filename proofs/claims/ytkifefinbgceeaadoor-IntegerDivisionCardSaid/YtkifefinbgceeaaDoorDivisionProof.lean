/- The statement about IntegerDivision is proved for every input: a is q b + r, and the quotient of a product by a factor is exact. No condition. -/
import Derived.Test.YtkifefinbgceeaaDoorRaw
import Derived.Test.YtkifefinbgceeaaDoorDivisionNo
import Derived.Test.YtkifefinbgceeaaDoorAwake
namespace Go.Proofs.YtkifefinbgceeaaDoor.IntegerDivision
open Go.ChangeShapes Go.WideShapes Go.ChangeAt Go.RowKit

theorem walk (nb mb : Bool) (ao bo : Option Addr) (n m ca cb : Nat) (w : World) (ha : n ≤ 1099511627776 → ∃ zs, Sl w ao n ca zs) (hb : m ≤ 1099511627776 → ∃ zs, Sl w bo m cb zs) :
    Calls Tryd.prog 6 #[.agg #[.bool nb, .slice ao n ca], .agg #[.bool mb, .slice bo m cb]] w fun e w' => e = .returned (.bool true) ∧ Ext w w' := by
  have haw : AwakeSays w := fun w' _ => awake_any w'
  by_cases h : n ≤ 40 ∧ m ≤ 40
  · obtain ⟨h1, h2⟩ := h
    obtain ⟨xs, hx⟩ := ha (by omega)
    obtain ⟨ys, hy⟩ := hb (by omega)
    by_cases h0 : sgd mb ys = 0
    · exact division_no nb mb ao bo n m ca cb w (fun _ => ⟨ys, hy, fun _ => h0⟩) haw
    · exact division_yes nb mb ao bo n m ca cb xs ys w hx hy h1 h2 h0 haw
  · refine division_no nb mb ao bo n m ca cb w (fun hm => ?_) haw
    obtain ⟨ys, hy⟩ := hb (by omega)
    exact ⟨ys, hy, fun hn => absurd ⟨hn, hm⟩ h⟩

set_option maxRecDepth 100000 in
theorem contract (H : Type) (enc : TypeId × Value → H) (W : World) (base : Nat) (args : Array Value) (ds gs : List (DataW H)) (before : List MemPlace)
    (hval0 : ∀ (j : Nat) t v, Tryd.f6.params[j]? = some t → args[j]? = some v → Value.okWide Tryd.prog W .any base t v)
    (hW : DataW.Whole enc Tryd.prog Tryd.f6.params.toList Rows.integerDivisionSpec.vars false W args.toList ds gs before) :
    Calls Tryd.prog 6 args W fun e W' => ∃ v, e = .returned v ∧ Rows.integerDivisionSpec.post enc Tryd.prog Tryd.f6 false true false false W args v W' := by
  have hW' := hW
  obtain ⟨p, q, hA0, hV, rfl, hfz, hnd⟩ := hW
  have hlt : ∀ x ∈ p, x.block < W.heap.size := fun x hx => hW'.lt x (by simp [hx])
  have hA : DataW.TrodAll enc Tryd.prog W 0 (fun _ => true) true Tryd.f6.params.toList args.toList ds p := hA0
  have hval := hval0
  rw [Tryd.params6] at hA hval
  obtain ⟨v0, v1, d0, d1, p0, p1, rfl, rfl, rfl, h0, h1⟩ := trodAll_two hA
  obtain ⟨rfl, rfl⟩ := trodVars_none hV
  obtain ⟨nb, ao, n, ca, rfl, r0⟩ := raw_big (hval 0 24 v0 rfl rfl) h0
  obtain ⟨mb, bo, m, cb, rfl, r1⟩ := raw_big (hval 1 24 v1 rfl rfl) h1
  clear hA0 hval0
  refine (walk nb mb ao bo n m ca cb W r0 r1).mono fun e W' ⟨he, hb⟩ => ?_
  subst he
  have back : ∀ {v : Value} {d : DataW H} {ps : List MemPlace}, DataW.Trod enc Tryd.prog W 0 (fun _ => true) true 24 v d ps → (∀ x ∈ ps, x.block < W.heap.size) → DataW.Trod enc Tryd.prog W' 0 (fun b => decide (b < W.heap.size)) true 24 v d ps :=
    fun h hl => Below.trod Tryd.laidOut Tryd.readBig Tryd.sizeBig h hb hl
  refine ⟨_, rfl, _, _, _, [], p0 ++ p1, [], hW', trodAll_mk1 (shut_bool Tryd.underlying4 _), ?_, rfl, hb.frame _, fun h => by cases h⟩
  exact trodAll_mk2 (back h0 (fun x hx => hlt x (by simp [hx]))) (back h1 (fun x hx => hlt x (by simp [hx])))

/-- an input that fits: two zeros -/
def zeros : Array Value := #[.agg #[.bool false, .slice none 0 0], .agg #[.bool false, .slice none 0 0]]
theorem reads (os : Os) {H : Type} (enc : TypeId × Value → H) : ∃ places, DataW.whole enc Tryd.prog ((World.doorLaid Tryd.prog 400 os).forCall (fun _ _ => 0) ⟨#[], zeros, []⟩).memory Tryd.f6.params.toList Rows.integerDivisionSpec.vars false zeros.toList 8 =
    some ([.agg [.lit (.bool false), .nil], .agg [.lit (.bool false), .nil]], [], places) :=
  ⟨[], by kernel_rfl⟩
theorem laid_met (os : Os) : laidMet Tryd.prog Rows.integerDivisionRow.laid ((World.doorLaid Tryd.prog 400 os).forCall (fun _ _ => 0) ⟨#[], zeros, []⟩).memory :=
  laidMet_of_run' 8 (by kernel_rfl) (by kernel_rfl)

set_option maxRecDepth 100000 in
theorem lifted (os : Os) (started : os.Started) (H : Type) (enc : TypeId × Value → H) (F : Stop.Interp) :
    ReturnsInHanded {} Tryd.checked os 6 .any ((OpenSpec.ofChange Rows.integerDivisionSpec).preRow enc Tryd.prog Tryd.f6 Rows.integerDivisionRow.domain false Rows.integerDivisionRow.laid) (((OpenSpec.ofChange Rows.integerDivisionSpec).at F).post enc Tryd.prog Tryd.f6 false true false false) := by
  obtain ⟨places, hx⟩ := reads os enc
  refine returnsInHanded_of_row (C := Tryd.checked) (s := OpenSpec.ofChange Rows.integerDivisionSpec) Tryd.own started (by kernel_rfl) Tryd.func6
    (witness_row_at (enc := enc) (C := Tryd.checked) false (World.doorLaid Tryd.prog 400 os) zeros rfl (by kernel_rfl) (by kernel_rfl) (by kernel_rfl)
      (OpenSpec.preRow_of_cond 8 hx (by kernel_rfl) (fun k hk => by cases hk) (by kernel_rfl) (laid_met os))) ?_
  intro W base args ds gs before hval hW _ _ _ _ _ _
  exact contract H enc W base args ds gs before hval hW

theorem said : Rows.IntegerDivisionSaid :=
  OpenClaim.holds_of_cond 6 Tryd.f6 rfl rfl rfl rfl rfl rfl rfl ⟨rfl, rfl, rfl, rfl, rfl⟩ rfl rfl rfl rfl rfl (by kernel_rfl) Tryd.func6 (by kernel_rfl)
    (of_decide_eq_true (by kernel_rfl)) (by unfold Func.isWrapper; first | (rw [if_pos (by decide +kernel)]; kernel_rfl) | (rw [if_neg (by decide +kernel)]; exact ⟨rfl, rfl⟩))
    (fun os started H enc _ F => by rw [OpenClaim.pre_eq_preRow]; exact lifted os started H enc F)

theorem plain (f : FuncId) (fn : Func) (hf : Tryd.pinned.checked.prog.funcNamed "sparse/sparselaw01.IntegerDivision" = some f) (hfn : Tryd.pinned.checked.prog.funcs[f]? = some fn) :
    false = Tryd.pinned.checked.prog.looks [] ∧ ∀ (j : Nat) t, fn.params[j]? = some t → Tryd.pinned.checked.prog.wantsStandIn t = false := by
  obtain rfl : f = 6 := Option.some.inj ((show Tryd.prog.funcNamed "sparse/sparselaw01.IntegerDivision" = some 6 by kernel_rfl).symm.trans hf) |>.symm
  obtain rfl : fn = Tryd.f6 := (Option.some.inj (Tryd.func6.symm.trans hfn)).symm
  refine ⟨by kernel_rfl, fun j t ht => ?_⟩
  rw [Tryd.params6] at ht
  have hm : t ∈ [24, 24] := by simpa using Array.mem_of_getElem? ht
  have hall : ([24, 24].all fun u => !Tryd.prog.wantsStandIn u) = true := by kernel_rfl
  exact (show Tryd.prog.wantsStandIn t = false by simpa using List.all_eq_true.1 hall t hm)

/-- the card -/
theorem card : Rows.IntegerDivisionCardSaid :=
  Claim7.holds_tied_plain_at .later [] _ _ _ _ said (fun _ h => by cases h) (by kernel_rfl) (fun _ h => by cases h) integerDivision_row_tie rfl ⟨rfl, rfl⟩ (by kernel_rfl) rfl plain (by kernel_rfl)
end Go.Proofs.YtkifefinbgceeaaDoor.IntegerDivision
namespace Go.Proofs.YtkifefinbgceeaaDoor
theorem integerDivision_card : Rows.IntegerDivisionCardSaid := IntegerDivision.card
end Go.Proofs.YtkifefinbgceeaaDoor
