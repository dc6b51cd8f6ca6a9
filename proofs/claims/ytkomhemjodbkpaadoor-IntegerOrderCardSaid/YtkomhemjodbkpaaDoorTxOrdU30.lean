import Derived.RangeFuncNested
import Derived.RangeFuncBound
import Derived.RangeFuncCalls
import Derived.RangeFuncLeaves
import Derived.Shelf.Abstract
import Derived.Shelf.RegionOpen
import Derived.WalkKit
import Derived.OwnWalkIn
import Derived.TacticsInMore
import Derived.LoopNIn
import Derived.LoopIn
import Derived.Test.YtkomhemjodbkpaaDoorTxOrdU16
import Derived.Test.YtkomhemjodbkpaaDoorTxOrdU28
import Derived.Test.YtkomhemjodbkpaaDoorTxOrdU29
namespace Go.Proofs.YtkomhemjodbkpaaDoor
open Go.RowKit Go.Shelf
attribute [local go_sem] Oper.semAt_some

theorem builder_below {T e : TypeId} {B b : Nat} {p : Value} {bs : List Value} {w w' : World} (h : Lib.BuilderAtF T e B b p bs w) (hb : Below w.heap.size w w') : Lib.BuilderAtF T e B b p bs w' := by
  have hlt := h.lt
  obtain ⟨h1, v, h2, h3, h4⟩ := h
  refine ⟨h1, v, by rw [hb.block b hlt]; exact h2, ?_, h4⟩
  obtain ⟨k1, k2⟩ := h3
  refine ⟨k1, ?_⟩
  rcases k2 with k2 | ⟨g, cap, cur, fz, hv, hBg, hg, r⟩
  · exact .inl k2
  · exact .inr ⟨g, cap, cur, fz, hv, hBg, by rw [hb.block g (Array.getElem?_eq_some_iff.1 hg).1]; exact hg, r⟩

set_option maxRecDepth 100000 in
set_option maxHeartbeats 1000000 in
/-- nothing to range over -/
theorem backward_none (g : Nat) (ao : Option Addr) (cap : Nat) (y : Value) (W : World) (hg : W.cell? ⟨g, 0, none⟩ = some (.slice ao 0 cap)) :
    Calls Tryd.prog 49 #[y, .pointer (some ⟨g, 0, none⟩)] W fun e w' => e = .returned (.tuple #[]) ∧ W = w' := by
  go_enter Tryd.func49, Tryd.ntmps49
  go_wp2
  refine wp_loop_rounds 1 ?_
  rw [rounds_succ]
  go_wp2
  go_end0
  exact ⟨rfl, rfl⟩

set_option maxRecDepth 100000 in
set_option maxHeartbeats 1000000 in
theorem backward_any (ao : Option Addr) (n cap : Nat) (w : World) :
    Calls Tryd.prog 31 #[.slice ao n cap] w fun e w' => e = .returned (.func (.func 49) #[] #[.pointer (some ⟨w.heap.size, 0, none⟩)]) ∧ w' = w.alloc (.cells #[.slice ao n cap] 22) := by
  go_enter Tryd.func31, Tryd.ntmps31
  go_wp2
  go_ret
  exact ⟨rfl, rfl⟩

set_option maxRecDepth 100000 in
set_option maxHeartbeats 4000000 in
theorem format_plus (a : Nat) (t : ByteArray) (ao : Option Addr) (n ca : Nat) (zs : List Int) (w : World) (h : Sl w ao n ca zs) (ha : (num zs).toNat = a) (h0 : 0 < a) (h1 : a < 1000000000) (ht : t.size ≤ 100)
    (hf : ∀ W, Calls Tryd.prog 30 #[.int .u64 a, .int .i64 10] W fun e w' => e = .returned (.string t) ∧ W = w') :
    CallsIn Fence.wide 100 Tryd.prog 10 #[.agg #[.bool false, .slice ao n ca]] w fun e w' => e = .returned (.string t) ∧ Ext w w' := by
  have htr := trim_sl ao n ca zs
  rw [ha] at htr
  refine callsIn_of_wp_marks Tryd.func10 rfl trivial ?_ rfl
  simp only [Tryd.ntmps10, List.size_toArray, List.length_cons, List.length_nil, Nat.reduceAdd, Nat.reduceSub, Array.replicate_succ, Array.replicate_zero, List.push_toArray, List.append_toArray, List.nil_append, List.cons_append]
  have hx := Box.new w false ao n ca
  have hB := (Below.refl w.heap.size w).alloc (Nat.le_refl _) (.cells #[.bool false, .slice ao n ca] 24)
  have hs := h.below hB
  have HTR := Lib.hid (htr _ hs)
  clear htr
  gi_wp2_with fail
  refine ⟨trivial, (callsIn_wide.2 HTR.out).mono ?_⟩
  rintro e w1 ⟨k, rfl, hk, rfl⟩
  have hk1 : k = 1 := by
    rw [← hk.len, limbs_pos (by omega), show a / 4294967296 = 0 by omega, limbs_zero]; rfl
  subst hk1
  have hg := groups_small a ao ca
  have HGR := Lib.hid hg; clear hg
  generalize hW : w.alloc (.cells #[.bool false, .slice ao n ca] 24) = W at *
  clear hW
  have c0 := ((hx.below ((Below.refl W.heap.size W).alloc (Nat.le_refl _) (.cells #[.pointer none, .slice none 0 0] 54))).c0)
  gi_wp2_with fail
  have hbn : (W.alloc (.cells #[.pointer none, .slice none 0 0] 54)).heap[W.heap.size]? = some (.cells #[.pointer none, .slice none 0 0] 54 (0, 0)) := heap_alloc_new W _
  have hBb := (Below.refl W.heap.size W).alloc (Nat.le_refl _) (.cells #[.pointer none, .slice none 0 0] 54)
  have hkb := hk.below hBb
  have hWs := hx.lt
  have hz : (W.alloc (.cells #[.pointer none, .slice none 0 0] 54)).heap.size = W.heap.size + 1 := by simp
  generalize W.alloc (.cells #[.pointer none, .slice none 0 0] 54) = W1 at *
  generalize hb : W.heap.size = b at *
  have HBS := Lib.hid hb; clear hb
  have hbld : Lib.IsBuilderF 54 5 b b [] W1 := Lib.IsBuilderF.of (.inl ⟨Nat.le_refl _, _, hbn, World.ownsRow_nil _ _ _ _, by simp [Value.ownBlock]⟩)
  clear hbn
  refine ⟨trivial, (callsIn_wide.2 (HGR.out W1 hkb h0 h1)).mono ?_⟩
  rintro e w2 ⟨g, rfl, hg2, hw2⟩
  have hbld2 : Lib.IsBuilderF 54 5 b b [] w2 := by
    rcases hbld with q | q
    · exact .inl (builder_below q hw2)
    · exact .inr (builder_below q hw2)
  have hsz2 := hw2.size
  have hb2 := hBb.trans (hw2.mono (by omega))
  clear hbld hw2 hkb c0 hBb
  gi_wp2_with fail
  have hsg := hg2.sl (n := 1) (cap := 1) (Wf.cons (by omega) Wf.nil) rfl (by omega) (Nat.le_refl _)
  have ht2 := trim_sl _ _ _ [(a : Int)] w2 hsg
  have e2 : num [(a : Int)] = a := by simp [num]
  rw [e2, Int.toNat_natCast] at ht2
  clear e2
  refine ⟨trivial, (callsIn_wide.2 ht2).mono ?_⟩
  rintro e w3 ⟨k, rfl, hk3, rfl⟩
  have hk1 : k = 1 := by
    rw [← hk3.len, limbs_pos (by omega), show a / 4294967296 = 0 by omega, limbs_zero]; rfl
  subst hk1
  have c1 : w2.cell? ⟨g, 0, none⟩ = some (.int .u32 (a : Int)) := by
    have := hg2.cell 0 (by simp)
    simpa [List.getD] using this
  clear ht2 hk3
  gi_wp2_with fail
  refine ⟨trivial, (callsIn_wide.2 (hf w2)).mono ?_⟩
  rintro e w4 ⟨rfl, rfl⟩
  gi_wp2_with fail
  refine ⟨trivial, (callsIn_wide.2 (writeString_any b b [] t w2 hbld2 (by simp; omega) (by omega))).mono ?_⟩
  rintro e w5 ⟨rfl, hb5, hw5⟩
  have hsz5 := hw5.size
  have hb25 := hb2.trans hw5
  clear hbld2 hw5 c1 hg2 hsg hb2
  gi_wp2_with fail
  refine ⟨trivial, (callsIn_wide.2 (backward_any _ _ _ w5)).mono ?_⟩
  rintro e w6 ⟨rfl, rfl⟩
  have hcb := (Below.refl w5.heap.size w5).alloc (Nat.le_refl _) (.cells #[.slice (some ⟨g, 0, none⟩) 0 1] 22)
  gi_wp2_with fail
  have hz6 : (w5.alloc (.cells #[.slice (some ⟨g, 0, none⟩) 0 1] 22)).heap.size = w5.heap.size + 1 := by simp
  have hc6 : (w5.alloc (.cells #[.slice (some ⟨g, 0, none⟩) 0 1] 22)).cell? ⟨w5.heap.size, 0, none⟩ = some (.slice (some ⟨g, 0, none⟩) 0 1) := by go_simp
  have hb6 := builder_below hb5 hcb
  have hb26 := hb25.trans (hcb.mono (by omega))
  generalize w5.alloc (.cells #[.slice (some ⟨g, 0, none⟩) 0 1] 22) = w6 at *
  generalize w5.heap.size = m5 at *
  have hc6lt := lt_of_cell hc6
  refine wpIn_rangeFunc_ownF (α := Empty) rfl (by omega) (gf := 49) (lb := #[.pointer (some ⟨m5, 0, none⟩)]) rfl trivial (enters_of Tryd.func49 (by kernel_rfl) rfl)
    (encs := fun x => x.elim) (Kp := fun _ _ => True) (S := fun xs => xs = []) (Sp := fun _ => False) (N := 0) (w0 := w6) ?seq (fun _ _ => trivial) (fun _ _ _ _ _ _ _ _ => trivial) (Below.refl _ _) (fun x => x.elim)
    (fun _ W => Below w6.heap.size w6 W) (fun _ _ _ => False) (ownFrom_below (Nat.le_refl _) (Nat.le_refl _)) (fun _ _ _ _ _ hs _ _ => hs) (Below.refl _ _) (fun x => x.elim) (fun _ x => x.elim) (fun _ _ x => x.elim) ?done ?stop
  case seq =>
    intro l J Jx W' hW' _ _ _ hJ
    refine (callsIn_wide.2 (backward_none m5 _ _ _ W' (by rw [hW'.cell (p := ⟨m5, 0, none⟩) hc6lt]; exact hc6))).mono ?_
    rintro e w' ⟨rfl, rfl⟩
    exact ⟨⟨_, rfl⟩, .inl ⟨[], rfl, hJ⟩⟩
  case stop =>
    rintro D c pre W' _ hp _ _
    exact hp.elim
  case done =>
    rintro D ys W' hD rfl hW' hK
    have hb7 := builder_below hb6 hW'
    have hb27 := hb26.trans (hW'.mono (by omega))
    have hsz7 := hW'.size
    clear hb6 hW' hb26 hb5 hb25 hc6 hcb
    gi_wp2_with fail
    have hcell : [] ++ Lib.strCells t = Lib.byteCells t.data.toList := by simp [Lib.strCells, Lib.byteCells]
    rw [hcell] at hb7
    refine ⟨trivial, (callsIn_wide.2 (Tryd.Builder_String_any_k b b t.data.toList W' (.inr hb7) (by omega))).mono ?_⟩
    rintro e w8 ⟨rfl, _, hw8, hk8⟩
    have hD8 : w8.heap[D]? = some (.deferred (some [])) := hk8 D _ hK (by simp; omega) (fun c fz => by simp)
    have hb28 := hb27.trans hw8
    have hlt8 := (Array.getElem?_eq_some_iff.1 hD8).1
    gi_wp2
    refine ⟨by simp, .inl ⟨_, _, rfl, run_takeDeferred hD8, ?_⟩⟩
    refine ⟨_, results_tmp rfl _ _ _, ?_, ?_⟩
    · simp
    · have hw : Below w.heap.size w w8 := hB.trans (hb28.mono (by omega))
      exact hw.trans (belowK_b (w := w) (Nat.le_refl _) w8 D _ _ (by omega) hD8 rfl rfl)
set_option maxRecDepth 100000 in
set_option maxHeartbeats 4000000 in
theorem format_minus (a : Nat) (t : ByteArray) (ao : Option Addr) (n ca : Nat) (zs : List Int) (w : World) (h : Sl w ao n ca zs) (ha : (num zs).toNat = a) (h0 : 0 < a) (h1 : a < 1000000000) (ht : t.size ≤ 100)
    (hf : ∀ W, Calls Tryd.prog 30 #[.int .u64 a, .int .i64 10] W fun e w' => e = .returned (.string t) ∧ W = w') :
    CallsIn Fence.wide 100 Tryd.prog 10 #[.agg #[.bool true, .slice ao n ca]] w fun e w' => e = .returned (.string ⟨#[45] ++ t.data⟩) ∧ Ext w w' := by
  have htr := trim_sl ao n ca zs
  rw [ha] at htr
  refine callsIn_of_wp_marks Tryd.func10 rfl trivial ?_ rfl
  simp only [Tryd.ntmps10, List.size_toArray, List.length_cons, List.length_nil, Nat.reduceAdd, Nat.reduceSub, Array.replicate_succ, Array.replicate_zero, List.push_toArray, List.append_toArray, List.nil_append, List.cons_append]
  have hx := Box.new w true ao n ca
  have hB := (Below.refl w.heap.size w).alloc (Nat.le_refl _) (.cells #[.bool true, .slice ao n ca] 24)
  have hs := h.below hB
  have HTR := Lib.hid (htr _ hs)
  clear htr
  gi_wp2_with fail
  refine ⟨trivial, (callsIn_wide.2 HTR.out).mono ?_⟩
  rintro e w1 ⟨k, rfl, hk, rfl⟩
  have hk1 : k = 1 := by
    rw [← hk.len, limbs_pos (by omega), show a / 4294967296 = 0 by omega, limbs_zero]; rfl
  subst hk1
  have hg := groups_small a ao ca
  have HGR := Lib.hid hg; clear hg
  generalize hW : w.alloc (.cells #[.bool true, .slice ao n ca] 24) = W at *
  clear hW
  have c0 := ((hx.below ((Below.refl W.heap.size W).alloc (Nat.le_refl _) (.cells #[.pointer none, .slice none 0 0] 54))).c0)
  gi_wp2_with fail
  have hbn : (W.alloc (.cells #[.pointer none, .slice none 0 0] 54)).heap[W.heap.size]? = some (.cells #[.pointer none, .slice none 0 0] 54 (0, 0)) := heap_alloc_new W _
  have hBb := (Below.refl W.heap.size W).alloc (Nat.le_refl _) (.cells #[.pointer none, .slice none 0 0] 54)
  have hkb := hk.below hBb
  have hWs := hx.lt
  have hz : (W.alloc (.cells #[.pointer none, .slice none 0 0] 54)).heap.size = W.heap.size + 1 := by simp
  generalize W.alloc (.cells #[.pointer none, .slice none 0 0] 54) = W1 at *
  generalize hb : W.heap.size = b at *
  have HBS := Lib.hid hb; clear hb
  have hbld : Lib.IsBuilderF 54 5 b b [] W1 := Lib.IsBuilderF.of (.inl ⟨Nat.le_refl _, _, hbn, World.ownsRow_nil _ _ _ _, by simp [Value.ownBlock]⟩)
  clear hbn
  refine ⟨trivial, (callsIn_wide.2 (writeByte_any b b [] 45 W1 hbld (by simp) (by omega))).mono ?_⟩
  rintro e w1' ⟨rfl, hbw, hww⟩
  have hz' := hww.size
  have hkb' := hk.below (by rw [HBS.out]; exact hBb.trans hww)
  have hBb' := hBb.trans hww
  clear hbld hkb hBb c0
  gi_wp2_with fail
  refine ⟨trivial, (callsIn_wide.2 (HGR.out w1' hkb' h0 h1)).mono ?_⟩
  rintro e w2 ⟨g, rfl, hg2, hw2⟩
  have hbld2 : Lib.IsBuilderF 54 5 b b ([] ++ [.int .u8 45]) w2 := .inr (builder_below hbw hw2)
  have hsz2 := hw2.size
  have hb2 := hBb'.trans (hw2.mono (by omega))
  clear hbw hw2 hkb' hBb'
  gi_wp2_with fail
  have hsg := hg2.sl (n := 1) (cap := 1) (Wf.cons (by omega) Wf.nil) rfl (by omega) (Nat.le_refl _)
  have ht2 := trim_sl _ _ _ [(a : Int)] w2 hsg
  have e2 : num [(a : Int)] = a := by simp [num]
  rw [e2, Int.toNat_natCast] at ht2
  clear e2
  refine ⟨trivial, (callsIn_wide.2 ht2).mono ?_⟩
  rintro e w3 ⟨k, rfl, hk3, rfl⟩
  have hk1 : k = 1 := by
    rw [← hk3.len, limbs_pos (by omega), show a / 4294967296 = 0 by omega, limbs_zero]; rfl
  subst hk1
  have c1 : w2.cell? ⟨g, 0, none⟩ = some (.int .u32 (a : Int)) := by
    have := hg2.cell 0 (by simp)
    simpa [List.getD] using this
  clear ht2 hk3
  gi_wp2_with fail
  refine ⟨trivial, (callsIn_wide.2 (hf w2)).mono ?_⟩
  rintro e w4 ⟨rfl, rfl⟩
  gi_wp2_with fail
  refine ⟨trivial, (callsIn_wide.2 (writeString_any b b _ t w2 hbld2 (by simp; omega) (by omega))).mono ?_⟩
  rintro e w5 ⟨rfl, hb5, hw5⟩
  have hsz5 := hw5.size
  have hb25 := hb2.trans hw5
  clear hbld2 hw5 c1 hg2 hsg hb2
  gi_wp2_with fail
  refine ⟨trivial, (callsIn_wide.2 (backward_any _ _ _ w5)).mono ?_⟩
  rintro e w6 ⟨rfl, rfl⟩
  have hcb := (Below.refl w5.heap.size w5).alloc (Nat.le_refl _) (.cells #[.slice (some ⟨g, 0, none⟩) 0 1] 22)
  gi_wp2_with fail
  have hz6 : (w5.alloc (.cells #[.slice (some ⟨g, 0, none⟩) 0 1] 22)).heap.size = w5.heap.size + 1 := by simp
  have hc6 : (w5.alloc (.cells #[.slice (some ⟨g, 0, none⟩) 0 1] 22)).cell? ⟨w5.heap.size, 0, none⟩ = some (.slice (some ⟨g, 0, none⟩) 0 1) := by go_simp
  have hb6 := builder_below hb5 hcb
  have hb26 := hb25.trans (hcb.mono (by omega))
  generalize w5.alloc (.cells #[.slice (some ⟨g, 0, none⟩) 0 1] 22) = w6 at *
  generalize w5.heap.size = m5 at *
  have hc6lt := lt_of_cell hc6
  refine wpIn_rangeFunc_ownF (α := Empty) rfl (by omega) (gf := 49) (lb := #[.pointer (some ⟨m5, 0, none⟩)]) rfl trivial (enters_of Tryd.func49 (by kernel_rfl) rfl)
    (encs := fun x => x.elim) (Kp := fun _ _ => True) (S := fun xs => xs = []) (Sp := fun _ => False) (N := 0) (w0 := w6) ?seq (fun _ _ => trivial) (fun _ _ _ _ _ _ _ _ => trivial) (Below.refl _ _) (fun x => x.elim)
    (fun _ W => Below w6.heap.size w6 W) (fun _ _ _ => False) (ownFrom_below (Nat.le_refl _) (Nat.le_refl _)) (fun _ _ _ _ _ hs _ _ => hs) (Below.refl _ _) (fun x => x.elim) (fun _ x => x.elim) (fun _ _ x => x.elim) ?done ?stop
  case seq =>
    intro l J Jx W' hW' _ _ _ hJ
    refine (callsIn_wide.2 (backward_none m5 _ _ _ W' (by rw [hW'.cell (p := ⟨m5, 0, none⟩) hc6lt]; exact hc6))).mono ?_
    rintro e w' ⟨rfl, rfl⟩
    exact ⟨⟨_, rfl⟩, .inl ⟨[], rfl, hJ⟩⟩
  case stop =>
    rintro D c pre W' _ hp _ _
    exact hp.elim
  case done =>
    rintro D ys W' hD rfl hW' hK
    have hb7 := builder_below hb6 hW'
    have hb27 := hb26.trans (hW'.mono (by omega))
    have hsz7 := hW'.size
    clear hb6 hW' hb26 hb5 hb25 hc6 hcb
    gi_wp2_with fail
    have hcell : [] ++ [Value.int .u8 45] ++ Lib.strCells t = Lib.byteCells (45 :: t.data.toList) := by simp [Lib.strCells, Lib.byteCells]
    rw [hcell] at hb7
    refine ⟨trivial, (callsIn_wide.2 (Tryd.Builder_String_any_k b b (45 :: t.data.toList) W' (.inr hb7) (by omega))).mono ?_⟩
    rintro e w8 ⟨rfl, _, hw8, hk8⟩
    have hD8 : w8.heap[D]? = some (.deferred (some [])) := hk8 D _ hK (by simp; omega) (fun c fz => by simp)
    have hb28 := hb27.trans hw8
    have hlt8 := (Array.getElem?_eq_some_iff.1 hD8).1
    gi_wp2
    refine ⟨by simp, .inl ⟨_, _, rfl, run_takeDeferred hD8, ?_⟩⟩
    refine ⟨_, results_tmp rfl _ _ _, ?_, ?_⟩
    · simp
    · have hw : Below w.heap.size w w8 := hB.trans (hb28.mono (by omega))
      exact hw.trans (belowK_b (w := w) (Nat.le_refl _) w8 D _ _ (by omega) hD8 rfl rfl)

/-- the texts of the two fixed numbers -/
theorem format_1 (nb : Bool) (ao : Option Addr) (n ca : Nat) (w : World) (h : Bn w nb ao n ca 1) :
    Calls Tryd.prog 10 #[.agg #[.bool nb, .slice ao n ca]] w fun e w' => e = .returned (.string ⟨#[49]⟩) ∧ Ext w w' := by
  have hnb : nb = false := by rw [h.neg]; rfl
  subst hnb
  exact callsIn_wide.1 (format_plus 1 ⟨#[49]⟩ ao n ca _ w h.sl (by rw [num_limbs]; rfl) (by omega) (by omega) (by decide) small_1)
theorem format_m14 (nb : Bool) (ao : Option Addr) (n ca : Nat) (w : World) (h : Bn w nb ao n ca (-14)) :
    Calls Tryd.prog 10 #[.agg #[.bool nb, .slice ao n ca]] w fun e w' => e = .returned (.string ⟨#[45, 49, 52]⟩) ∧ Ext w w' := by
  have hnb : nb = true := by rw [h.neg]; rfl
  subst hnb
  exact callsIn_wide.1 (format_minus 14 ⟨#[49, 52]⟩ ao n ca _ w h.sl (by rw [num_limbs]; rfl) (by omega) (by omega) (by decide) small_14)
end Go.Proofs.YtkomhemjodbkpaaDoor
