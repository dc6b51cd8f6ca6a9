import Derived.Test.YthicfkeiggcjjaaGreatDoorEcSlU18
import Derived.Test.YthicfkeiggcjjaaGreatDoorEcSlU15
import Derived.Maps.OwnOps
import Derived.Maps.OwnSet
import Derived.Maps.Views
namespace Go.Proofs.YthicfkeiggcjjaaGreatDoor
open Go Go.RowKit Go.Maps

/-- what is read from a set of bools -/
theorem bool_read {H : Type} {P : Program} {e : TypeId} (he : P.underlying e = some .bool) {v : Value} {d : DataW H} {ps : List MemPlace} (h : plainElem P e v = some (d, ps)) : ∃ x, v = .bool x ∧ d = .lit (.bool x) := by
  unfold plainElem at h
  rw [he] at h
  cases v <;> simp at h
  exact ⟨_, rfl, h.1.symm⟩

/-- the look-up in a map of bools as one step of a walk -/
theorem step_look_bool {H : Type} {P : Program} (w : World) {ops : Array Oper} {rest : List Oper} {o : Oper} {a : Act} {Q : Exit → Act → World → Prop} (hg : o.guard = none) (m x : Operand) (t : TypeId) (hop : o.op = Op.lookup t m x false)
    (k e : TypeId) (K : Keyed P k) (ht : P.underlying t = some (.map k e)) (he : P.underlying e = some .bool) (hz : (zeroValue e).run P w = .ok (.bool false) w) (b n : Nat) (D : DataW H) (hm : a.eval m = .map (some b)) (hown : w.ownsMap P k (plainElem P e) b n D)
    (key : Value) (kl : Lit) (hx : a.eval x = key) (hkey : keyOf P k key = some kl) (y : Bool) (hy : D.atKey kl (.lit (.bool false)) = .lit (.bool y)) (hK : wpList P ops Q rest (a.put o.dst (.bool y)) w) : wpList P ops Q (o :: rest) a w := by
  obtain ⟨v, ps, hrun, hv⟩ := hown.lookup K ht hz (plainElem_bool he false) hkey
  obtain ⟨c, rfl, hc⟩ := bool_read he hv
  rw [hy] at hc
  have hcy : c = y := by injection hc with h; injection h with h; exact h.symm
  subst hcy
  refine wpList_plain hg fun K' hK' => ?_
  unfold Oper.wp
  simp [execOp, hop, hm, hx, hrun, Result.andThen]
  exact hK' _ _ hK

theorem Tryz.lawInt : Keyed Tryz.prog 3 := int_keyed Tryz.underlying3
theorem Tryz.zeroBool (w : World) : (zeroValue 4).run Tryz.prog w = .ok (.bool false) w := by kernel_rfl

/-- is one of the first n numbers there -/
def inB (l : List Int) (z : Int) : Bool := l.any fun y => y == z
/-- does a number stand again behind some others -/
def dupB : List Int → List Int → Bool
  | _, [] => false
  | seen, z :: l => if inB seen z then true else dupB (seen ++ [z]) l
/-- the error of a list of moduli -/
def modE (ps : List Int) : Int := if ps.all mr then (if dupB [] ps then 1 else 0) else 70

/-- the map holds these numbers -/
def SetIs (w : World) (b n : Nat) (seen : List Int) : Prop := ∃ D : DataW Unit, w.ownsMap Tryz.prog 3 (plainElem Tryz.prog 4) b n D ∧ ∀ z : Int, D.atKey (.int .i64 z) (.lit (.bool false)) = .lit (.bool (inB seen z))
theorem inB_append (l : List Int) (y z : Int) : inB (l ++ [y]) z = (inB l z || (y == z)) := by unfold inB; rw [List.any_append]; simp
theorem SetIs.add {w' : World} {b n : Nat} {seen : List Int} {z : Int} {D : DataW Unit} (hm : IsMap D) (hD : ∀ z : Int, D.atKey (.int .i64 z) (.lit (.bool false)) = .lit (.bool (inB seen z))) (h : w'.ownsMap Tryz.prog 3 (plainElem Tryz.prog 4) b (n + 1) (D.put (.int .i64 z) (.lit (.bool true)))) : SetIs w' b (n + 1) (seen ++ [z]) := by
  refine ⟨_, h, fun y => ?_⟩
  rw [inB_append]
  by_cases hzy : y = z
  · subst hzy
    rw [atKey_put_same hm (by first | trivial | exact ⟨_, _, rfl⟩ | simp [WideAt.IsKeyLit])]
    simp
  · rw [atKey_put_other (fun e => hzy (by injection e)), hD y]
    have : (z == y) = false := beq_eq_false_iff_ne.2 (fun e => hzy e.symm)
    rw [this, Bool.or_false]

set_option maxRecDepth 100000 in
set_option maxHeartbeats 4000000 in
theorem checkModuli_any (ao : Option Addr) (n cap : Nat) (ps : List Int) (w : World) (h : Ns w ao n cap ps) (hn : n ≤ 1000) (hr : ∀ p ∈ ps, -9223372036854775808 ≤ p ∧ p ≤ 9223372036854775807) (hT : Table64 w) :
    Calls Tryz.prog 44 #[.slice ao n cap] w fun e w' => e = .returned (.int .i64 (modE ps)) ∧ Ext w w' := by
  have hmm := @run_makeMap Tryz.prog
  obtain ⟨R, hR⟩ : ∃ R, modE ps = R := ⟨_, rfl⟩
  rw [hR]
  have HR := Lib.hid hR
  have HN := Lib.hid h
  have HT := Lib.hid hT
  have HL := Lib.hid (show ps.length = n from h.len)
  have CI := Lib.hid (fun p => isPrime_any p w hT)
  have HPR := Lib.hid hr
  clear hR h hT hr
  go_enter Tryz.func44, Tryz.ntmps44
  go_wp2
  go_loopw [10] (fun iv wr => ∃ k : Nat, k ≤ n ∧ iv = .int .i64 (k : Int) ∧ Hid ((ps.take k).all mr = true) ∧ w = wr)
    (fun iv _ => n - (intOf iv).toNat)
  case atStart => exact ⟨0, Nat.zero_le _, rfl, Lib.hid rfl, rfl⟩
  case round =>
    obtain ⟨k, hk, rfl, HA, rfl⟩ := hrel
    by_cases hlt : k < n
    · obtain ⟨b, off, rfl, hc⟩ := HN.out.cells (by omega)
      have hck := hc k hlt
      obtain ⟨z, hz⟩ : ∃ z, ps.getD k 0 = z := ⟨_, rfl⟩
      rw [hz] at hck
      have htk : ps.take (k + 1) = ps.take k ++ [z] := by
        have hkl : k < ps.length := by rw [HL.out]; exact hlt
        rw [List.take_add_one, List.getElem?_eq_getElem hkl, ← hz]
        simp [List.getD, hkl]
      have HTK := Lib.hid htk
      have HZM := Lib.hid (show z ∈ ps by
        have hkl : k < ps.length := by rw [HL.out]; exact hlt
        rw [← hz]; simp [List.getD, hkl])
      have hki : (k : Int) < (n : Int) := by omega
      clear hc hz htk
      go_wp2_with fail
      refine (CI.out z).mono ?_
      rintro e w1 ⟨rfl, rfl⟩
      cases hm : mr z with
      | false =>
        have hr : R = 70 := by
          rw [← HR.out]; unfold modE
          rw [if_neg]
          intro hall
          rw [List.all_eq_true.1 hall z HZM.out] at hm
          cases hm
        subst hr
        clear hm
        go_wp2
        go_ret
        exact ⟨rfl, Ext.refl _⟩
      | true =>
        have HA2 := Lib.hid (show (ps.take (k + 1)).all mr = true by rw [HTK.out, List.all_append, HA.out]; simp [hm])
        clear hm
        go_wp2
        go_roundw
        case rel => exact ⟨k + 1, by omega, by go_num, HA2, trivial⟩
        case measure => simp [intOf]; omega
    · obtain rfl : k = n := by omega
      have HALL := Lib.hid (show ps.all mr = true by
        have := HA.out
        rwa [List.take_of_length_le (by rw [HL.out]; exact Nat.le_refl _)] at this)
      have HR2 := Lib.hid (show R = if dupB [] ps then 1 else 0 by rw [← HR.out]; unfold modE; rw [if_pos HALL.out])
      clear hlt HA HALL hk CI HR
      go_wp2
      go_loopw [21] (fun iv wr => ∃ k1 : Nat, k1 ≤ k ∧ iv = .int .i64 (k1 : Int) ∧ SetIs wr w.heap.size k1 (ps.take k1) ∧ Hid (dupB [] ps = dupB (ps.take k1) (ps.drop k1)) ∧ Below w.heap.size w wr)
        (fun iv _ => k - (intOf iv).toNat)
      case atStart => exact ⟨0, Nat.zero_le _, rfl, ⟨_, World.ownsMap_made _ _ _ _, fun _ => rfl⟩, Lib.hid rfl, (Below.refl _ _).alloc (Nat.le_refl _) _⟩
      case round =>
        obtain ⟨k1, hk1, rfl, ⟨D, hown, hD⟩, HD2, hB⟩ := hrel
        by_cases hlt : k1 < k
        · have hN := HN.out.below (show Ext w wr from hB)
          obtain ⟨b, off, rfl, hc⟩ := hN.cells (by omega)
          have hck := hc k1 hlt
          obtain ⟨z, hz⟩ : ∃ z, ps.getD k1 0 = z := ⟨_, rfl⟩
          rw [hz] at hck
          have hkl : k1 < ps.length := by rw [HL.out]; exact hlt
          have HTK := Lib.hid (show ps.take (k1 + 1) = ps.take k1 ++ [z] by
            rw [List.take_add_one, List.getElem?_eq_getElem hkl, ← hz]
            simp [List.getD, hkl])
          have HDR := Lib.hid (show ps.drop k1 = z :: ps.drop (k1 + 1) by
            rw [List.drop_eq_getElem_cons hkl, ← hz]
            simp [List.getD, hkl])
          have hzr := HPR.out z (by rw [← hz]; simp [List.getD, hkl])
          have hkey : keyOf Tryz.prog 3 (.int .i64 z) = some (.int .i64 z) := keyOf_int_mk Tryz.underlying3 (WalkArith.wf_i64 hzr)
          obtain ⟨y, hy⟩ : ∃ y, inB (ps.take k1) z = y := ⟨_, rfl⟩
          have hDz := hD z
          rw [hy] at hDz
          have HDD := Lib.hid hD
          have HIM := Lib.hid hown.isMap
          have hki : (k1 : Int) < (k : Int) := by omega
          have HSTEP := Lib.hid (show dupB [] ps = if y then true else dupB (ps.take (k1 + 1)) (ps.drop (k1 + 1)) by rw [HD2.out, HDR.out, HTK.out]; conv => lhs; unfold dupB; rw [hy])
          have HOWN := Lib.hid hown
          have hkmax : k1 < maxLen := by unfold maxLen; omega
          clear hc hz hD hN hkl hzr hy HD2 hown
          cases y with
          | true =>
            have hr : R = 1 := by rw [HR2.out, HSTEP.out]; rfl
            subst hr
            go_wp2_with (first
              | (at_lookup; refine step_look_bool _ rfl _ _ 94 rfl 3 4 Tryz.lawInt Tryz.underlying94 Tryz.underlying4 (Tryz.zeroBool _) w.heap.size k1 _ rfl HOWN.out _ _ rfl hkey true hDz ?_)
              | go_in)
            go_ret
            exact ⟨rfl, hB⟩
          | false =>
            have HS2 := Lib.hid (show dupB [] ps = dupB (ps.take (k1 + 1)) (ps.drop (k1 + 1)) by rw [HSTEP.out]; rfl)
            go_wp2_with (first
              | (at_lookup; refine step_look_bool _ rfl _ _ 94 rfl 3 4 Tryz.lawInt Tryz.underlying94 Tryz.underlying4 (Tryz.zeroBool _) w.heap.size k1 _ rfl HOWN.out _ _ rfl hkey false hDz ?_)
              | (at_mapUpdate; refine wpList_mapUpdate_own _ rfl _ _ _ 94 rfl 3 4 Tryz.lawInt Tryz.underlying94 _ w.heap.size k1 _ rfl HOWN.out hkmax _ _ _ rfl rfl hkey _ [] (plainElem_bool Tryz.underlying4 true) ?_; intro w1 hown1 hgrow1)
              | go_in)
            go_roundw
            case rel => exact ⟨k1 + 1, by omega, by go_num, by rw [HTK.out]; exact SetIs.add HIM.out HDD.out hown1, HS2, hB.grown hgrow1 hB.size (fun j hj => by cases hj; exact Nat.le_refl _)⟩
            case measure => simp [intOf]; omega
        · obtain rfl : k1 = k := by omega
          have hr : R = 0 := by
            rw [HR2.out, HD2.out, List.drop_eq_nil_of_le (by rw [HL.out]; exact Nat.le_refl _)]
            unfold dupB; rfl
          subst hr
          clear HD2 hown hD
          go_wp2
          go_ret
          exact ⟨rfl, hB⟩
end Go.Proofs.YthicfkeiggcjjaaGreatDoor
