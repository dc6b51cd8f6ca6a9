/- The statement about IntegerDivisor is proved for every input: the greatest common divisor divides both numbers and grows with a common factor. No condition. -/
import Derived.Test.YtecaaklbhhjcjaaDoorDivisorU2
import Derived.Test.YtecaaklbhhjcjaaDoorDivisorU43
import Derived.Test.YtecaaklbhhjcjaaDoorDivisorU47
namespace Go.Proofs.YtecaaklbhhjcjaaDoor.IntegerDivisor
open Go.ChangeShapes Go.WideShapes Go.ChangeAt Go.RowKit

theorem walk (nb mb lb : Bool) (ao bo co : Option Addr) (n m l ca cb cc : Nat) (w : World) (ha : n ≤ 1099511627776 → ∃ zs, Sl w ao n ca zs) (hb : m ≤ 1099511627776 → ∃ zs, Sl w bo m cb zs) (hc : l ≤ 1099511627776 → ∃ zs, Sl w co l cc zs) :
    Calls Tryd.prog 3 #[.agg #[.bool nb, .slice ao n ca], .agg #[.bool mb, .slice bo m cb], .agg #[.bool lb, .slice co l cc]] w fun e w' => e = .returned (.bool true) ∧ Ext w w' := by
  have haw : AwakeSays w := fun w' _ => awake_any w'
  by_cases h : n ≤ 20 ∧ m ≤ 20 ∧ l ≤ 20
  · obtain ⟨h1, h2, h3⟩ := h
    obtain ⟨xs, hx⟩ := ha (by omega)
    obtain ⟨ys, hy⟩ := hb (by omega)
    obtain ⟨zs, hz⟩ := hc (by omega)
    exact divisor_yes nb mb lb ao bo co n m l ca cb cc xs ys zs w hx hy hz h1 h2 h3 haw
  · exact divisor_no nb mb lb ao bo co n m l ca cb cc w h haw

set_option maxRecDepth 100000 in
theorem contract (H : Type) (enc : TypeId × Value → H) (W : World) (base : Nat) (args : Array Value) (ds gs : List (DataW H)) (before : List MemPlace)
    (hval0 : ∀ (j : Nat) t v, Tryd.f3.params[j]? = some t → args[j]? = some v → Value.okWide Tryd.prog W .any base t v)
    (hW : DataW.Whole enc Tryd.prog Tryd.f3.params.toList Rows.integerDivisorSpec.vars false W args.toList ds gs before) :
    Calls Tryd.prog 3 args W fun e W' => ∃ v, e = .returned v ∧ Rows.integerDivisorSpec.post enc Tryd.prog Tryd.f3 false true false false W args v W' := by
  have hW' := hW
  obtain ⟨p, q, hA0, hV, rfl, hfz, hnd⟩ := hW
  have hlt : ∀ x ∈ p, x.block < W.heap.size := fun x hx => hW'.lt x (by simp [hx])
  have hA : DataW.TrodAll enc Tryd.prog W 0 (fun _ => true) true Tryd.f3.params.toList args.toList ds p := hA0
  have hval := hval0
  rw [Tryd.params3] at hA hval
  obtain ⟨v0, v1, v2, d0, d1, d2, p0, p1, p2, rfl, rfl, rfl, h0, h1, h2⟩ := trodAll_three hA
  obtain ⟨rfl, rfl⟩ := trodVars_none hV
  obtain ⟨nb, ao, n, ca, rfl, r0⟩ := raw_big (hval 0 24 v0 rfl rfl) h0
  obtain ⟨mb, bo, m, cb, rfl, r1⟩ := raw_big (hval 1 24 v1 rfl rfl) h1
  obtain ⟨lb, co, l, cc, rfl, r2⟩ := raw_big (hval 2 24 v2 rfl rfl) h2
  clear hA0 hval0
  refine (walk nb mb lb ao bo co n m l ca cb cc W r0 r1 r2).mono fun e W' ⟨he, hb⟩ => ?_
  subst he
  have back : ∀ {v : Value} {d : DataW H} {ps : List MemPlace}, DataW.Trod enc Tryd.prog W 0 (fun _ => true) true 24 v d ps → (∀ x ∈ ps, x.block < W.heap.size) → DataW.Trod enc Tryd.prog W' 0 (fun b => decide (b < W.heap.size)) true 24 v d ps :=
    fun h hl => Below.trod Tryd.laidOut Tryd.readBig Tryd.sizeBig h hb hl
  refine ⟨_, rfl, _, _, _, [], p0 ++ (p1 ++ p2), [], hW', trodAll_mk1 (shut_bool Tryd.underlying4 _), ?_, rfl, hb.frame _, fun h => by cases h⟩
  exact trodAll_mk3 (back h0 (fun x hx => hlt x (by simp [hx]))) (back h1 (fun x hx => hlt x (by simp [hx]))) (back h2 (fun x hx => hlt x (by simp [hx])))

/-- an input that fits: three zeros -/
def zeros : Array Value := #[.agg #[.bool false, .slice none 0 0], .agg #[.bool false, .slice none 0 0], .agg #[.bool false, .slice none 0 0]]
theorem reads (os : Os) {H : Type} (enc : TypeId × Value → H) : ∃ places, DataW.whole enc Tryd.prog ((World.doorLaid Tryd.prog 400 os).forCall (fun _ _ => 0) ⟨#[], zeros, []⟩).memory Tryd.f3.params.toList Rows.integerDivisorSpec.vars false zeros.toList 8 =
    some ([.agg [.lit (.bool false), .nil], .agg [.lit (.bool false), .nil], .agg [.lit (.bool false), .nil]], [], places) :=
  ⟨[], by kernel_rfl⟩
theorem laid_met (os : Os) : laidMet Tryd.prog Rows.integerDivisorRow.laid ((World.doorLaid Tryd.prog 400 os).forCall (fun _ _ => 0) ⟨#[], zeros, []⟩).memory :=
  laidMet_of_run' 8 (by kernel_rfl) (by kernel_rfl)

set_option maxRecDepth 100000 in
theorem lifted (os : Os) (started : os.Started) (H : Type) (enc : TypeId × Value → H) (F : Stop.Interp) :
    ReturnsInHanded {} Tryd.checked os 3 .any ((OpenSpec.ofChange Rows.integerDivisorSpec).preRow enc Tryd.prog Tryd.f3 Rows.integerDivisorRow.domain false Rows.integerDivisorRow.laid) (((OpenSpec.ofChange Rows.integerDivisorSpec).at F).post enc Tryd.prog Tryd.f3 false true false false) := by
  obtain ⟨places, hx⟩ := reads os enc
  refine returnsInHanded_of_row (C := Tryd.checked) (s := OpenSpec.ofChange Rows.integerDivisorSpec) Tryd.own started (by kernel_rfl) Tryd.func3
    (witness_row_at (enc := enc) (C := Tryd.checked) false (World.doorLaid Tryd.prog 400 os) zeros rfl (by kernel_rfl) (by kernel_rfl) (by kernel_rfl)
      (OpenSpec.preRow_of_cond 8 hx (by kernel_rfl) (fun k hk => by cases hk) (by kernel_rfl) (laid_met os))) ?_
  intro W base args ds gs before hval hW _ _ _ _ _ _
  exact contract H enc W base args ds gs before hval hW

theorem said : Rows.IntegerDivisorSaid :=
  OpenClaim.holds_of_cond 3 Tryd.f3 rfl rfl rfl rfl rfl rfl rfl ⟨rfl, rfl, rfl, rfl, rfl⟩ rfl rfl rfl rfl rfl (by kernel_rfl) Tryd.func3 (by kernel_rfl)
    (of_decide_eq_true (by kernel_rfl)) (by unfold Func.isWrapper; first | (rw [if_pos (by decide +kernel)]; kernel_rfl) | (rw [if_neg (by decide +kernel)]; exact ⟨rfl, rfl⟩))
    (fun os started H enc _ F => by rw [OpenClaim.pre_eq_preRow]; exact lifted os started H enc F)

theorem plain (f : FuncId) (fn : Func) (hf : Tryd.pinned.checked.prog.funcNamed "sparse/sparselaw01.IntegerDivisor" = some f) (hfn : Tryd.pinned.checked.prog.funcs[f]? = some fn) :
    false = Tryd.pinned.checked.prog.looks [] ∧ ∀ (j : Nat) t, fn.params[j]? = some t → Tryd.pinned.checked.prog.wantsStandIn t = false := by
  obtain rfl : f = 3 := Option.some.inj ((show Tryd.prog.funcNamed "sparse/sparselaw01.IntegerDivisor" = some 3 by kernel_rfl).symm.trans hf) |>.symm
  obtain rfl : fn = Tryd.f3 := (Option.some.inj (Tryd.func3.symm.trans hfn)).symm
  refine ⟨by kernel_rfl, fun j t ht => ?_⟩
  rw [Tryd.params3] at ht
  have hm : t ∈ [24, 24, 24] := by simpa using Array.mem_of_getElem? ht
  have hall : ([24, 24, 24].all fun u => !Tryd.prog.wantsStandIn u) = true := by kernel_rfl
  exact (show Tryd.prog.wantsStandIn t = false by simpa using List.all_eq_true.1 hall t hm)

/-- the card -/
theorem card : Rows.IntegerDivisorCardSaid :=
  Claim7.holds_tied_plain_at .later [] _ _ _ _ said (fun _ h => by cases h) (by kernel_rfl) (fun _ h => by cases h) integerDivisor_row_tie rfl ⟨rfl, rfl⟩ (by kernel_rfl) rfl plain (by kernel_rfl)
end Go.Proofs.YtecaaklbhhjcjaaDoor.IntegerDivisor
namespace Go.Proofs.YtecaaklbhhjcjaaDoor
theorem integerDivisor_card : Rows.IntegerDivisorCardSaid := IntegerDivisor.card
end Go.Proofs.YtecaaklbhhjcjaaDoor
