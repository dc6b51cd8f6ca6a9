import Derived.Test.YtapcecjbmcoliaaGreatDoorACauU45
import Derived.Test.YtapcecjbmcoliaaGreatDoorACauU35
import Derived.Test.YtapcecjbmcoliaaGreatDoorACauU32
import Derived.Test.YtapcecjbmcoliaaGreatDoorACauU36
import Derived.Test.YtapcecjbmcoliaaGreatDoorACauU41
import Derived.Test.YtapcecjbmcoliaaGreatDoorACauU34
import Derived.Test.YtapcecjbmcoliaaGreatDoorACauU40
import Derived.Test.YtapcecjbmcoliaaGreatDoorACauU39
import Derived.Test.YtapcecjbmcoliaaGreatDoorACauU26
import Derived.Test.YtapcecjbmcoliaaGreatDoorACauU23
import Derived.Test.YtapcecjbmcoliaaGreatDoorACauU18
import Derived.Test.YtapcecjbmcoliaaGreatDoorACauU2
import Derived.Test.YtapcecjbmcoliaaGreatDoorACauU5
import Derived.Deep.QuietTactic
import Derived.BigQuiet
import Derived.Deep.RegionHeld3
import Derived.Test.YtapcecjbmcoliaaGreatDoorACauU38
import Derived.Deep.CutRange
import Derived.Test.YtapcecjbmcoliaaGreatDoorACauU24
import Derived.Test.YtapcecjbmcoliaaGreatDoorACauU33
import Derived.Test.YtapcecjbmcoliaaGreatDoorACauU31
namespace Go.Proofs.YtapcecjbmcoliaaGreatDoor
open Go Go.RowKit

theorem fin_60 : finB 4877398396442247168 = true := by decide
theorem aw_sum : dtotal ([4877398396442247168, 4607182418800017408, 14100770433297022976].map fdy) = some (1, 0) := by
  have h : ∀ f ∈ [4877398396442247168, 4607182418800017408, 14100770433297022976], finB f = true := by decide
  have h1 := sumF_dy h (by decide)
  have h2 : sumF [4877398396442247168, 4607182418800017408, 14100770433297022976] = fzs 4607182418800017408 := by decide +kernel
  rw [h2] at h1
  rw [h1.unique (fdy_is (by decide)), fdy_one]
theorem aw_two : faddF 4877398396442247168 4607182418800017408 0 = 4877398396442247168 := by decide +kernel
theorem aw_rest : restB 4877398396442247168 (dadd (fdy 4877398396442247168) (fdy 4607182418800017408)) = true ∧ rest 4877398396442247168 (dadd (fdy 4877398396442247168) (fdy 4607182418800017408)) = 4607182418800017408 := by
  obtain ⟨h1, _⟩ := free_sum (a := 4877398396442247168) (b := 4607182418800017408) fin_60 (by decide) (by decide) aw_two
  refine ⟨by rw [h1]; decide, ?_⟩
  have hV : Is (dadd (fdy 4877398396442247168) (fdy 4607182418800017408)) 1074 (fzs 4877398396442247168 + fzs 4607182418800017408) := (fdy_is fin_60).add (fdy_is (by decide)) (by omega) (abs_add_lt (fzs_lt fin_60) (fzs_lt (by decide))) (by rw [low46_le]; omega)
  have hR := Is.sub hV (fdy_is fin_60) (by omega) (B := 52 + low46 + 1 + 1) (abs_sub_lt (abs_add_lt (fzs_lt fin_60) (fzs_lt (by decide))) (lt_up (fzs_lt fin_60))) (by rw [low46_le]; omega)
  rw [show fzs 4877398396442247168 + fzs 4607182418800017408 - fzs 4877398396442247168 = fzs 4607182418800017408 by omega] at hR
  have e := hR.unique (fdy_is (by decide))
  unfold rest
  rw [e, fdy_one]
  decide +kernel

/-- three floats in a block of their own -/
theorem three_made (w : World) (a b c : Nat) (ha : a < 18446744073709551616) (hb : b < 18446744073709551616) (hc : c < 18446744073709551616) :
    ∃ W, W = w.alloc (.cells #[.int .u64 (a : Int), .int .u64 (b : Int), .int .u64 (c : Int)] 41) ∧ Ext w W ∧ Fs W (some ⟨w.heap.size, 0, none⟩) 3 3 [a, b, c] := by
  refine ⟨_, rfl, (Below.refl _ w).alloc (Nat.le_refl _) _, ⟨rfl, Nat.le_refl _, ?_, fun _ => ⟨w.heap.size, 0, rfl, fun j hj => ?_⟩⟩⟩
  · intro x hx
    simp only [List.mem_cons, List.not_mem_nil, or_false] at hx
    rcases hx with rfl | rfl | rfl <;> assumption
  · rw [cell_of_row _ w.heap.size _ _ _ _ (heap_alloc_new w _)]
    match j, hj with
    | 0, _ => rfl
    | 1, _ => rfl
    | 2, _ => rfl

set_option maxRecDepth 100000 in
set_option maxHeartbeats 4000000 in
theorem aawake_any (w : World) (hT : Table w) (hT6 : Table64 w) : Calls Tryz.prog 5 #[] w fun e w' => e = .returned (.bool true) ∧ Ext w w' := by
  have HT := Lib.hid hT; clear hT
  have HT6 := Lib.hid hT6; clear hT6
  go_enter Tryz.func5, Tryz.ntmps5
  go_wp2_with fail
  refine (refFromInt_60 w HT.out).mono ?_
  rintro e w1 ⟨rfl, h1⟩
  go_wp2_with fail
  refine (refFNeg_any 4877398396442247168 (by decide) (by decide) (by decide) w1).mono ?_
  rintro e w1' ⟨rfl, rfl⟩
  go_wp2_with fail
  obtain ⟨W, hW, hE, hfs⟩ := three_made w1 4877398396442247168 4607182418800017408 14100770433297022976 (by decide) (by decide) (by decide)
  have hW' : W = w1.alloc (.cells #[.int .u64 4877398396442247168, .int .u64 4607182418800017408, .int .u64 14100770433297022976] 41) := hW
  rw [← hW']
  clear hW hW'
  have h2 := Ext.trans h1 hE
  refine (asum_any _ _ _ _ W hfs (HT.out.below h2) (HT6.out.below h2) (by omega)).mono ?_
  rintro e w2 ⟨v, rfl, hv, hw2⟩
  rw [aw_sum] at hv
  have h3 := Ext.trans h2 hw2
  obtain ⟨rb, rn, ro, rk, rc, re, rfl⟩ := hv.parts
  clear hfs h1 h2 hE hw2
  go_upto_region 3 with fail
  obtain ⟨V, hV, hVB, hvx, hvz⟩ := dbox_new w2 rb rn ro rk rc re
  rw [← hV]
  clear hV
  have hv := hv.ext hVB
  have h4 := Ext.trans h3 hVB
  clear h3 hVB
  generalize w2.heap.size = C at *
  go_wp2_with fail
  refine (twoSum_any 4877398396442247168 4607182418800017408 (by decide) (by decide) V (HT.out.below h4) (HT6.out.below h4) 4877398396442247168 4607182418800017408 true aw_two aw_rest.2 aw_rest.1).mono ?_
  rintro e w3 ⟨rfl, hw3⟩
  have hv := hv.ext hw3
  have hvx := hvx.below hw3
  have h5 := Ext.trans h4 hw3
  have k0 := hvx.c0
  have k1 := hvx.c1
  have k2 := hvx.c2
  have k3 := hvx.c3
  clear h4 hw3
  rw [show pairV 4877398396442247168 4607182418800017408 true = .tuple #[.int .u64 4877398396442247168, .int .u64 4607182418800017408, .bool true] from rfl]
  go_wp2_with fail
  obtain ⟨V3, hV, hE3, hb3⟩ := limb_made w3 1 (by omega) (by omega)
  rw [show (Value.int IntKind.u32 ((1 : Nat) : Int)) = .int .u32 1 from rfl] at hV
  rw [← hV]
  clear hV
  refine (kitDyad_same _ _ _ _ (hv.ext hE3) (dn_lit (f := 0) hb3 (Or.inr ⟨by decide, by decide, by decide⟩))).mono ?_
  rintro e w4 ⟨rfl, hw4⟩
  have h6 := Lib.hid (Ext.trans (Ext.trans h5 hE3) hw4)
  clear k0 k1 k2 k3 hvx hv hb3 hE3 hw4 h5
  go_wp2
  go_ret
  exact ⟨rfl, h6.out⟩
end Go.Proofs.YtapcecjbmcoliaaGreatDoor

namespace Go.Proofs.YtapcecjbmcoliaaGreatDoor
open Go Go.RowKit

theorem Tryz.infoFloat : (Tryz.prog.info? 41).map (fun i => (i.zero, i.size, i.bytes)) = some (some (.int .u64 0), 1, 8) := by kernel_rfl

set_option maxRecDepth 100000 in
set_option maxHeartbeats 2000000 in
theorem refFinite_any (ao : Option Addr) (n cap : Nat) (l : List Nat) (w : World) (h : Fs w ao n cap l) (hn : n ≤ 1000000) (b : Bool) (hb : l.all finB = b) :
    Calls Tryz.prog 4 #[.slice ao n cap] w fun e w' => e = .returned (.bool b) ∧ w = w' := by
  have HL := Lib.hid h.len
  have HB := Lib.hid hb
  clear hb
  go_enter Tryz.func4, Tryz.ntmps4
  go_wp2
  go_loopw [3] (fun ix wr => ∃ j : Nat, j ≤ n ∧ ix = .int .i64 j ∧ wr = w ∧ (l.take j).all finB = true) (fun ix _ => n - (intOf ix).toNat)
  case atStart => exact ⟨0, Nat.zero_le _, rfl, rfl, rfl⟩
  case round =>
    obtain ⟨j, hj, rfl, hw, hall⟩ := hrel
    subst hw
    by_cases hlt : j < n
    · obtain ⟨b', off, rfl, hc⟩ := h.cells (by omega)
      have hcj := hc j hlt
      have hfl := h.getD_lt j
      have hnext : (l.take (j + 1)).all finB = (finB (l.getD j 0)) := by
        rw [List.take_succ_eq_append_getElem (by rw [HL.out]; exact hlt), List.all_append, hall]
        simp [List.getD, show j < l.length by rw [HL.out]; exact hlt]
      obtain ⟨x, hx⟩ : ∃ x, l.getD j 0 = x := ⟨_, rfl⟩
      have hmem : x ∈ l := by
        rw [← hx]; simp only [List.getD, List.getElem?_eq_getElem (show j < l.length by rw [HL.out]; exact hlt), Option.getD_some]; exact List.getElem_mem _
      rw [hx] at hcj hfl hnext
      have HN := Lib.hid hnext
      clear hc hx hnext hall
      cases hf : finB x with
      | false =>
        obtain rfl : b = false := by
          rw [← HB.out]
          exact List.all_eq_false.2 ⟨x, hmem, by simp [hf]⟩
        have C := Lib.hid (refFin_any x hfl false hf)
        go_wp2_with fail
        refine (C.out _).mono ?_
        rintro e w1 ⟨rfl, rfl⟩
        go_wp2
        go_ret
        exact ⟨rfl, rfl⟩
      | true =>
        have C := Lib.hid (refFin_any x hfl true hf)
        rw [hf] at HN
        clear hf
        go_wp2_with fail
        refine (C.out _).mono ?_
        rintro e w1 ⟨rfl, rfl⟩
        go_wp2
        go_roundw
        case rel => exact ⟨j + 1, by omega, by go_num, by first | rfl | trivial, HN.out⟩
        case measure => simp [intOf] <;> omega
    · obtain rfl : j = n := by omega
      rw [List.take_of_length_le (by rw [HL.out]; exact Nat.le_refl _)] at hall
      obtain rfl : b = true := by rw [← HB.out]; exact hall
      clear hall
      go_wp2
      go_ret
      exact ⟨rfl, rfl⟩

end Go.Proofs.YtapcecjbmcoliaaGreatDoor

namespace Go.Proofs.YtapcecjbmcoliaaGreatDoor
open Go Go.RowKit

set_option maxRecDepth 100000 in
set_option maxHeartbeats 4000000 in
theorem adot_len (ao bo : Option Addr) (n m cap cb : Nat) (w : World) (hnm : ¬ n = m) :
    Calls Tryz.prog 6 #[.slice ao n cap, .slice bo m cb] w fun e w' => ∃ v, e = .returned (.tuple #[v, .int .i64 2]) ∧ Dn w' v (some (0, 0)) ∧ Ext w w' := by
  go_enter Tryz.func6, Tryz.ntmps6
  go_upto_region 1 with fail
  obtain ⟨W, hW, hB, hbx, hz⟩ := dbox_new w false false none 0 0 0
  rw [← hW]
  clear hW
  generalize hBe : w.heap.size = B at *
  have HBe := Lib.hid hBe
  clear hBe
  have q0 := hbx.c0
  have q1 := hbx.c1
  have q2 := hbx.c2
  have q3 := hbx.c3
  have f0 := hbx.f 0
  have f1 := hbx.f 1
  have f2 := hbx.f 2
  have f3 := hbx.f 3
  have hres := dn_stored hbx (dn_zero W) w hB (Nat.le_refl B)
  have z3 := hbx.stored false false none 0 0 0
  have z0 := z3.c0
  have z1 := z3.c1
  have z2 := z3.c2
  have z4 := z3.c3
  have HRES := Lib.hid hres
  clear hres z3
  go_wp2
  refine bodyPost_ret (v := .tuple #[.agg #[.bool false, .bool false, .slice none 0 0, .int .i64 0], .int .i64 2]) (by simp [results, Tryz.results6, go_sem, z0, z1, z2, z4]) rfl ⟨_, rfl, ?_, ?_⟩
  · exact HRES.out.1
  · show Below _ _ _; rw [HBe.out]; exact HRES.out.2

theorem adotR_any (ao bo : Option Addr) (n m cap cb : Nat) (x y : List Nat) (w : World) (h : Fs w ao n cap x) (h' : Fs w bo m cb y) (hT : Table w) (hT6 : Table64 w) (hn : n ≤ 1000000) (D : Dy) (E : Int) (hR : dotR x y = (D, E)) :
    Calls Tryz.prog 6 #[.slice ao n cap, .slice bo m cb] w fun e w' => ∃ v, e = .returned (.tuple #[v, .int .i64 E]) ∧ Dn w' v D ∧ Ext w w' := by
  have hl := h.len
  have hl' := h'.len
  rcases Nat.decEq n m with hnm | hnm
  · unfold dotR at hR
    rw [if_pos (by omega)] at hR
    obtain ⟨rfl, rfl⟩ := Prod.mk.inj hR
    exact adot_len ao bo n m cap cb w hnm
  · subst hnm
    unfold dotR at hR
    rw [if_neg (by omega)] at hR
    obtain ⟨rfl, rfl⟩ := Prod.mk.inj hR
    exact adot_any ao bo n cap cb x y w h h' hT hT6 hn

end Go.Proofs.YtapcecjbmcoliaaGreatDoor

namespace Go.Proofs.YtapcecjbmcoliaaGreatDoor

theorem root_cut {Z m : Nat} : isq Z / 2 ^ m = isq (Z / (2 ^ m * 2 ^ m)) ∧ (decide (isq Z * isq Z ≠ Z) || decide (isq Z % 2 ^ m ≠ 0)) = (decide (Z % (2 ^ m * 2 ^ m) ≠ 0) || decide (isq (Z / (2 ^ m * 2 ^ m)) * isq (Z / (2 ^ m * 2 ^ m)) ≠ Z / (2 ^ m * 2 ^ m))) := by
  have hJ : 0 < 2 ^ m := Nat.pow_pos (by omega)
  generalize 2 ^ m = J at *
  have hJJ : 0 < J * J := Nat.mul_pos hJ hJ
  have hsq : ∀ c : Nat, c * c * (J * J) = (c * J) * (c * J) := fun c => by rw [Nat.mul_mul_mul_comm]
  have hL : ∀ c : Nat, c ≤ isq Z / J ↔ c ≤ isq (Z / (J * J)) := by
    intro c
    rw [Nat.le_div_iff_mul_le hJ, isq_le, isq_le, Nat.le_div_iff_mul_le hJJ, hsq]
  have hR : isq Z / J = isq (Z / (J * J)) := Nat.le_antisymm ((hL _).1 (Nat.le_refl _)) ((hL _).2 (Nat.le_refl _))
  refine ⟨hR, ?_⟩
  have hd := Nat.div_add_mod (isq Z) J
  have hz := Nat.div_add_mod Z (J * J)
  rw [hR] at hd
  rw [← Bool.decide_or, ← Bool.decide_or]
  apply decide_eq_decide.2
  constructor
  · intro h
    by_cases h1 : Z % (J * J) = 0
    · right
      intro h2
      rw [h1, Nat.add_zero, Nat.mul_comm, ← h2, hsq] at hz
      have h3 : isq Z = isq (Z / (J * J)) * J := by
        have h4 : isq ((isq (Z / (J * J)) * J) * (isq (Z / (J * J)) * J)) = isq (Z / (J * J)) * J := isq_sq _
        rw [hz] at h4
        exact h4
      rcases h with h | h
      · apply h; rw [h3, hz]
      · apply h; rw [h3]; exact Nat.mul_mod_left _ _
    · exact Or.inl h1
  · intro h
    by_cases h1 : isq Z % J = 0
    · left
      intro h2
      rw [h1, Nat.add_zero, Nat.mul_comm] at hd
      have h3 : Z = isq (Z / (J * J)) * isq (Z / (J * J)) * (J * J) := by rw [hsq, hd]; exact h2.symm
      rcases h with h | h
      · apply h; rw [h3]; exact Nat.mul_mod_left _ _
      · apply h
        have h5 : Z / (J * J) = isq (Z / (J * J)) * isq (Z / (J * J)) := by
          conv => lhs; rw [h3]
          exact Nat.mul_div_cancel _ hJJ
        exact h5.symm
    · exact Or.inr h1
/-- a root, and whether it is a little too small -/
structure RootG (A : Nat) (ea : Int) (r : Nat) (E : Int) (T : Bool) : Prop where
  r2 : 4611686018427387904 ≤ r
  r3 : r < 9223372036854775808
  val : ∃ a b : Nat, ea - (a : Int) + b = 2 * E ∧ r = isq (A * 2 ^ a / 2 ^ b) ∧ T = (decide (A * 2 ^ a % 2 ^ b ≠ 0) || decide (r * r ≠ A * 2 ^ a / 2 ^ b))
theorem RootG.fla {A r : Nat} {ea E : Int} {T : Bool} (h : RootG A ea r E T) (hA : A ≠ 0) (mode : Int) : fla false r E T mode = rootV (some ((A : Int), ea)) mode := by
  obtain ⟨r2, r3, a, b, hE, hr, hT⟩ := h
  have hp : 0 < 2 ^ b := Nat.pow_pos (by omega)
  have hZ : A * 2 ^ (a + b) = A * 2 ^ a * 2 ^ b := by rw [Nat.pow_add, Nat.mul_assoc]
  obtain ⟨c1, c2⟩ := root_cut (Z := A * 2 ^ (a + b)) (m := b)
  have d1 : A * 2 ^ (a + b) / (2 ^ b * 2 ^ b) = A * 2 ^ a / 2 ^ b := by rw [hZ, Nat.mul_div_mul_right _ _ hp]
  have d2 : decide (A * 2 ^ (a + b) % (2 ^ b * 2 ^ b) ≠ 0) = decide (A * 2 ^ a % 2 ^ b ≠ 0) := by
    rw [hZ, Nat.mul_mod_mul_right]
    apply decide_eq_decide.2
    constructor
    · intro h1 h2; exact h1 (by rw [h2, Nat.zero_mul])
    · intro h1 h2
      rcases Nat.mul_eq_zero.1 h2 with h3 | h3
      · exact h1 h3
      · omega
  rw [d1] at c1 c2
  rw [d2, ← hr, ← hT] at c2
  rw [← hr] at c1
  have h53 : 2 ^ 53 ≤ r := Nat.le_trans (by decide) r2
  have h1 := fla_tail false (N := isq (A * 2 ^ (a + b))) ((ea - ((a + b : Nat) : Int)) / 2) (decide (isq (A * 2 ^ (a + b)) * isq (A * 2 ^ (a + b)) ≠ A * 2 ^ (a + b))) mode b (by rw [c1]; exact h53)
  rw [c1, c2] at h1
  have e1 : (ea - ((a + b : Nat) : Int)) / 2 + (b : Int) = E := by omega
  rw [e1] at h1
  rw [h1]
  unfold rootV
  dsimp only
  rw [if_neg (by omega), if_neg (by omega), Int.natAbs_natCast]
  obtain ⟨k1, k2⟩ := rootK_ok (A := A) (e := ea)
  refine fla_root_any (by omega) k2 ?_ (big_53 (root_big hA k1))
  have h2 : r ≤ isq (A * 2 ^ (a + b)) := by rw [← c1]; exact Nat.div_le_self _ _
  exact Nat.le_trans h53 h2
end Go.Proofs.YtapcecjbmcoliaaGreatDoor

namespace Go.Proofs.YtapcecjbmcoliaaGreatDoor
open Go Go.RowKit

theorem wpList_make_float (w : World) {ops : Array Oper} {rest : List Oper} {o : Oper} {a : Act} {Q : Exit → Act → World → Prop}
    (hg : o.guard = none) (l c : Operand) (hop : o.op = Op.makeSlice 22 l c) (L : Int) (n : Nat)
    (hl : a.eval l = .int .i64 L) (hc : a.eval c = .int .i64 L) (hL : L = (n : Int)) (hn : n ≤ 1000000)
    (hK : ∀ w', FR w' w.heap.size n n (List.replicate n 0) → Below w.heap.size w w' → wpList Tryz.prog ops Q rest (a.put o.dst (.slice (some ⟨w.heap.size, 0, none⟩) n n)) w') :
    wpList Tryz.prog ops Q (o :: rest) a w := by
  obtain ⟨i0, hi, hz0, hz1, hz2⟩ := info_parts Tryz.infoFloat
  refine wpList_make_full w hg l c 22 hop 0 41 i0 (.int .u64 0) 1 Tryz.underlying22 hi hz0 hz1 _ _ _ _ n hl hc hL hL (by rw [hz2]; omega) (by unfold maxLen; omega) (Nat.zero_le _) ?_
  intro w' ho hgr
  refine hK w' ?_ ((Below.refl _ w).grown hgr (Nat.le_refl _) (fun k hk => by cases hk))
  rw [made1] at ho
  exact ho

set_option maxRecDepth 100000 in
set_option maxHeartbeats 8000000 in
theorem anormInf_any (ao : Option Addr) (n cap : Nat) (l : List Nat) (w : World) (h : Fs w ao n cap l) (hT6 : Table64 w) (hn : n ≤ 1000000) :
    Calls Tryz.prog 9 #[.slice ao n cap] w fun e w' => ∃ v, e = .returned v ∧ Dn w' v (fdy (gmax l)) ∧ Ext w w' := by
  have HL := Lib.hid h.len
  have HH := Lib.hid h
  have HT6 := Lib.hid hT6
  clear h hT6
  go_enter Tryz.func9, Tryz.ntmps9
  go_upto_region 1 with fail
  obtain ⟨W, hW, hB, hbx, hz⟩ := dbox_new w false false none 0 0 0
  rw [← hW]
  clear hW
  generalize hBe : w.heap.size = B at *
  have HBe := Lib.hid hBe
  have HEX := Lib.hid (show ∀ wx, Below B w wx → Ext w wx from fun wx h => by rw [← hBe] at h; exact h)
  clear hBe
  go_wp2
  go_loopw [3, 8] (fun gv ix wr => ∃ (j : Nat), j ≤ n ∧ ix = .int .i64 j ∧ gv = .int .u64 ((gmax (l.take j) : Nat) : Int) ∧ W = wr)
    (fun _ ix _ => n - (intOf ix).toNat)
  case atStart => exact ⟨0, Nat.zero_le _, rfl, rfl, rfl⟩
  case round =>
    obtain ⟨j, hj, rfl, rfl, rfl⟩ := hrel
    by_cases hlt : j < n
    · have h := HH.out.below (HEX.out _ hB)
      obtain ⟨b, off, rfl, hc⟩ := h.cells (by omega)
      have hcj := hc j hlt
      have hfl := h.getD_lt j
      have hgs := gmax_snoc (l := l) (j := j) (by rw [HL.out]; exact hlt)
      obtain ⟨x, hx⟩ : ∃ x, l.getD j 0 = x := ⟨_, rfl⟩
      rw [hx] at hcj hfl hgs
      have CA := Lib.hid (absF_any x hfl)
      obtain ⟨G, hG⟩ : ∃ G, gmax (l.take j) = G := ⟨_, rfl⟩
      obtain ⟨a, ha⟩ : ∃ a, fabsF x = a := ⟨_, rfl⟩
      rw [hG, ha] at hgs
      rw [ha] at CA
      have HGS := Lib.hid (show max (G : Int) (a : Int) = ((gmax (l.take (j + 1)) : Nat) : Int) by rw [hgs]; omega)
      rw [hG]
      clear hc h hx hG ha hgs hfl
      go_wp2_with fail
      refine (CA.out _).mono ?_
      rintro e w2 ⟨rfl, rfl⟩
      go_wp2
      go_roundw
      case rel => exact ⟨j + 1, by omega, by go_num, by rw [← HGS.out], by first | rfl | trivial⟩
      case measure => simp [intOf] <;> omega
    · obtain rfl : j = n := by omega
      have ht : l.take j = l := List.take_of_length_le (by rw [HL.out]; exact Nat.le_refl _)
      rw [ht]
      have hgl := gmax_lt l
      have CO := Lib.hid (fof_any (gmax l) (by omega) W (HT6.out.below (HEX.out _ hB)))
      clear ht hgl
      go_wp2_with fail
      refine CO.out.mono ?_
      rintro e w2 ⟨v, rfl, hv, hw2⟩
      obtain ⟨rb, rn, ro, rk, rc, re, rfl⟩ := hv.parts
      have hbr := hbx.below hw2
      obtain ⟨hE2, hE2'⟩ := bnext hB (by omega) hw2
      have q0 := hbr.c0
      have q1 := hbr.c1
      have q2 := hbr.c2
      have q3 := hbr.c3
      have f0 := hbr.f 0
      have f1 := hbr.f 1
      have f2 := hbr.f 2
      have f3 := hbr.f 3
      have hres := dn_stored hbr hv w hE2 (Nat.le_refl B)
      have z3 := hbr.stored rb rn ro rk rc re
      have z0 := z3.c0
      have z1 := z3.c1
      have z2 := z3.c2
      have z4 := z3.c3
      have HRES := Lib.hid hres; clear hres z3
      go_wp2
      refine bodyPost_ret (v := .agg #[.bool rb, .bool rn, .slice ro rk rc, .int .i64 re]) (by simp [results, Tryz.results9, go_sem, z0, z1, z2, z4]) rfl ⟨_, rfl, ?_, ?_⟩
      · exact HRES.out.1
      · show Below _ _ _; rw [HBe.out]; exact HRES.out.2

set_option maxRecDepth 100000 in
set_option maxHeartbeats 8000000 in
theorem anormOne_any (ao : Option Addr) (n cap : Nat) (l : List Nat) (w : World) (h : Fs w ao n cap l) (hT : Table w) (hT6 : Table64 w) (hn : n ≤ 1000000) :
    Calls Tryz.prog 10 #[.slice ao n cap] w fun e w' => ∃ v, e = .returned v ∧ Dn w' v (dtotal ((l.map fabsF).map fdy)) ∧ Ext w w' := by
  have HL := Lib.hid h.len
  have HH := Lib.hid h
  have HT6 := Lib.hid hT6
  have HT := Lib.hid hT
  clear h hT6 hT
  go_enter Tryz.func10, Tryz.ntmps10
  go_upto_region 1 with fail
  obtain ⟨W, hW, hB, hbx, hz⟩ := dbox_new w false false none 0 0 0
  rw [← hW]
  clear hW
  generalize hBe : w.heap.size = B at *
  have HBe := Lib.hid hBe
  have HEX := Lib.hid (show ∀ wx, Below B w wx → Ext w wx from fun wx h => by rw [← hBe] at h; exact h)
  clear hBe
  go_wp2_with (refine wpList_make_float _ rfl _ _ rfl _ n rfl rfl rfl (by omega) ?_)
  intro w1 hfr hw1
  obtain ⟨hE, hE'⟩ := bnext hB (by omega) hw1
  have hbx := hbx.below hw1
  have hgB : B < W.heap.size := by omega
  generalize W.heap.size = g at *
  have htb : FR w1 g n n ((l.map fabsF).take 0 ++ List.replicate (n - 0) 0) := by rw [List.take_zero, List.nil_append, Nat.sub_zero]; exact hfr
  clear hB hw1 hz hfr
  go_wp2
  go_loopw [4, 5, 11] (fun _ _ ix wr => ∃ (j : Nat), j ≤ n ∧ ix = .int .i64 j ∧ FR wr g n n ((l.map fabsF).take j ++ List.replicate (n - j) 0) ∧ Below B w wr ∧ DBox wr B false false none 0 0 0)
    (fun _ _ ix _ => n - (intOf ix).toNat)
  case atStart => exact ⟨0, Nat.zero_le _, rfl, htb, hE, hbx⟩
  case round =>
    obtain ⟨j, hj, rfl, htb, hE, hbr⟩ := hrel
    have hgl := htb.lt
    have hbl := hbr.lt
    by_cases hlt : j < n
    · have h := HH.out.below (HEX.out _ hE)
      obtain ⟨b, off, rfl, hc⟩ := h.cells (by omega)
      have hcj := hc j hlt
      have hfl := h.getD_lt j
      have hgs : ((l.map fabsF).take j ++ List.replicate (n - j) 0).set j (fabsF (l.getD j 0)) = (l.map fabsF).take (j + 1) ++ List.replicate (n - (j + 1)) 0 := by
        have hjl : j < l.length := by rw [HL.out]; exact hlt
        have hjm : j < (l.map fabsF).length := by rw [List.length_map]; exact hjl
        have hlen : ((l.map fabsF).take j).length = j := by rw [List.length_take]; omega
        rw [List.take_succ_eq_append_getElem hjm, List.set_append_right _ _ (by omega), hlen, Nat.sub_self]
        obtain ⟨k, hk⟩ : ∃ k, n - j = k + 1 := ⟨n - j - 1, by omega⟩
        rw [hk, show n - (j + 1) = k by omega, List.replicate_succ, List.set_cons_zero, List.append_assoc]
        congr 1
        simp [List.getD, hjl]
      obtain ⟨x, hx⟩ : ∃ x, l.getD j 0 = x := ⟨_, rfl⟩
      rw [hx] at hcj hfl hgs
      have CA := Lib.hid (absF_any x hfl)
      obtain ⟨a, ha⟩ : ∃ a, fabsF x = a := ⟨_, rfl⟩
      rw [ha] at CA hgs
      have hset := htb.set j a
      rw [hgs] at hset
      have ho : Only g wr (wr.setCell ⟨g, j, none⟩ (.int .u64 (a : Int))) := (Only.refl g wr).setCell _ _
      have c0 := htb.c j hlt
      have f0 := htb.f j
      have hE3 := hE.trans (ho.below (B := B) (by omega))
      have hbr3 := hbr.only ho (by omega)
      have HS := Lib.hid hset
      have HE3 := Lib.hid hE3
      have HB3 := Lib.hid hbr3
      clear hc h hx ha hgs hfl hset hE3 hbr3 ho htb
      obtain ⟨u0, hu0⟩ : ∃ u0 : Int, ((((l.map fabsF).take j ++ List.replicate (n - j) 0).getD j 0 : Nat) : Int) = u0 := ⟨_, rfl⟩
      rw [hu0] at c0
      clear hu0
      go_wp2_with fail
      refine (CA.out _).mono ?_
      rintro e w2 ⟨rfl, rfl⟩
      go_wp2
      go_roundw
      case rel => exact ⟨j + 1, by omega, by go_num, HS.out, HE3.out, HB3.out⟩
      case measure => simp [intOf] <;> omega
    · obtain rfl : j = n := by omega
      have ht : (l.map fabsF).take j ++ List.replicate (j - j) 0 = l.map fabsF := by
        rw [Nat.sub_self, List.replicate_zero, List.append_nil]
        exact List.take_of_length_le (by rw [List.length_map, HL.out]; exact Nat.le_refl _)
      rw [ht] at htb
      have hfs := htb.sl (fun x hx => by obtain ⟨f, _, rfl⟩ := List.mem_map.1 hx; exact Nat.lt_of_lt_of_le (absF_lt63 f) (by omega))
      have C := Lib.hid (asum_any _ _ _ _ wr hfs (HT.out.below (HEX.out _ hE)) (HT6.out.below (HEX.out _ hE)) (by omega))
      clear hfs ht htb
      go_wp2_with fail
      refine C.out.mono ?_
      rintro e w2 ⟨v, rfl, hv, hw2⟩
      obtain ⟨rb, rn, ro, rk, rc, re, rfl⟩ := hv.parts
      have hbr := hbr.below hw2
      obtain ⟨hE2, hE2'⟩ := bnext hE (by omega) hw2
      have q0 := hbr.c0
      have q1 := hbr.c1
      have q2 := hbr.c2
      have q3 := hbr.c3
      have f0 := hbr.f 0
      have f1 := hbr.f 1
      have f2 := hbr.f 2
      have f3 := hbr.f 3
      have hres := dn_stored hbr hv w hE2 (Nat.le_refl B)
      have z3 := hbr.stored rb rn ro rk rc re
      have z0 := z3.c0
      have z1 := z3.c1
      have z2 := z3.c2
      have z4 := z3.c3
      have HRES := Lib.hid hres; clear hres z3
      go_wp2
      refine bodyPost_ret (v := .agg #[.bool rb, .bool rn, .slice ro rk rc, .int .i64 re]) (by simp [results, Tryz.results10, go_sem, z0, z1, z2, z4]) rfl ⟨_, rfl, ?_, ?_⟩
      · exact HRES.out.1
      · show Below _ _ _; rw [HBe.out]; exact HRES.out.2

end Go.Proofs.YtapcecjbmcoliaaGreatDoor
