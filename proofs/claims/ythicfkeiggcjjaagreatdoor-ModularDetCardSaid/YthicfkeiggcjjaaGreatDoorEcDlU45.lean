import Derived.Test.YthicfkeiggcjjaaGreatDoorEcDlU41
import Derived.Test.YthicfkeiggcjjaaGreatDoorEcDlU44
import Derived.Test.YthicfkeiggcjjaaGreatDoorEcDlU4
import Derived.Test.YthicfkeiggcjjaaGreatDoorEcDlU2
import Derived.Test.YthicfkeiggcjjaaGreatDoorEcDlU15
namespace Go.Proofs.YthicfkeiggcjjaaGreatDoor
open Go Go.RowKit Go.Shelf
attribute [local go_sem] Oper.semAt_some

theorem flat_len (D : Nat → Nat) (pre : List Nat) : (pre.flatMap (fun i => padD 9 (D i))).length = 9 * pre.length := by
  induction pre with
  | nil => rfl
  | cons x l ih => rw [List.flatMap_cons, List.length_append, ih, padD_length, List.length_cons]; omega
theorem repeatL_48 (c : Nat) : Lib.repeatL [48] c = List.replicate c 48 := by
  induction c with
  | zero => rfl
  | succ c ih => show [48] ++ Lib.repeatL [48] c = _; rw [ih]; rfl
theorem builder_own {β : Type} {T e : TypeId} {B b : Nat} {p : Value} (f : β → List Value) (C : Nat) : OwnFrom C (fun (s : β) W => Lib.BuilderAtF T e B b p (f s) W) := fun s W W' row hs hg hr => by
  obtain ⟨h1, v, h2, h3, h4⟩ := hs
  have hk : ∀ (k : Nat) (c : Array Value) (t : TypeId) (fz : Nat × Nat), W.heap[k]? = some (.cells c t fz) → W'.heap[k]? = some (.cells c t fz) := fun k c t fz hk => (hg.block k (Array.getElem?_eq_some_iff.1 hk).1 (fun e => by
    obtain ⟨-, o, ho, hc⟩ := hr k e.symm
    rw [hk] at ho
    injection ho with ho
    subst ho
    cases hc)).trans hk
  refine ⟨h1, v, hk _ _ _ _ h2, ?_, h4⟩
  obtain ⟨k1, k2⟩ := h3
  refine ⟨k1, ?_⟩
  rcases k2 with k2 | ⟨g, cap, cur, fz, hv, hBg, hg', r⟩
  · exact .inl k2
  · exact .inr ⟨g, cap, cur, fz, hv, hBg, hk _ _ _ _ hg', r⟩

set_option maxRecDepth 100000 in
set_option maxHeartbeats 4000000 in
theorem format_pos (a : Nat) (ao : Option Addr) (n ca : Nat) (zs : List Int) (w : World) (h : Sl w ao n ca zs) (ha : (num zs).toNat = a) (h0 : 0 < a) (hn : n < 100) (hP : Pow10 w) :
    CallsIn Fence.wide 100 Tryz.prog 30 #[.agg #[.bool false, .slice ao n ca]] w fun e w' => e = .returned (.string ⟨(([] : List UInt8) ++ Lib.decDigits a).toArray⟩) ∧ Ext w w' := by
  have htr := trim_sl ao n ca zs
  rw [ha] at htr
  have hln : (limbs a).length ≤ n := by rw [← ha, ← h.len]; exact limbs_len_toNat h.wf
  have HP := Lib.hid (show ∀ W, Below w.heap.size w W → Pow10 W from fun W hW => hP.below hW)
  clear hP
  refine callsIn_of_wp_marks Tryz.func30 rfl trivial ?_ rfl
  simp only [Tryz.ntmps30, List.size_toArray, List.length_cons, List.length_nil, Nat.reduceAdd, Nat.reduceSub, Array.replicate_succ, Array.replicate_zero, List.push_toArray, List.append_toArray, List.nil_append, List.cons_append]
  have hx := Box.new w false ao n ca
  have hB := (Below.refl w.heap.size w).alloc (Nat.le_refl _) (.cells #[.bool false, .slice ao n ca] 52)
  have hs := h.below hB
  have HTR := Lib.hid (htr _ hs)
  clear htr
  gi_wp2_with fail
  refine ⟨trivial, (callsIn_wide.2 HTR.out).mono ?_⟩
  rintro e w1 ⟨k, rfl, hk, rfl⟩
  have hk1 : 0 < k := by
    rw [← hk.len]
    rcases Nat.eq_zero_or_pos (limbs a).length with h | h
    · have := limbs_inj ((List.eq_nil_of_length_eq_zero h).trans limbs_zero.symm); omega
    · exact h
  have hk100 : k < 100 := by rw [← hk.len]; omega
  have hkf : ((k : Int) == 0) = false := beq_eq_false_iff_ne.2 (by omega)
  have hkf2 : ¬ (k : Int) = 0 := by omega
  have HGR := Lib.hid (fun W hW => groups_any a ao k ca W hW hk100)
  generalize hW : w.alloc (.cells #[.bool false, .slice ao n ca] 52) = W at *
  clear hW
  have c0 := ((hx.below ((Below.refl W.heap.size W).alloc (Nat.le_refl _) (.cells #[.pointer none, .slice none 0 0] 75))).c0)
  gi_wp2_with fail
  have hbn : (W.alloc (.cells #[.pointer none, .slice none 0 0] 75)).heap[W.heap.size]? = some (.cells #[.pointer none, .slice none 0 0] 75 (0, 0)) := heap_alloc_new W _
  have hBb := (Below.refl W.heap.size W).alloc (Nat.le_refl _) (.cells #[.pointer none, .slice none 0 0] 75)
  have hkb := hk.below hBb
  have hWs := hx.lt
  have hz : (W.alloc (.cells #[.pointer none, .slice none 0 0] 75)).heap.size = W.heap.size + 1 := by simp
  generalize W.alloc (.cells #[.pointer none, .slice none 0 0] 75) = W1 at *
  generalize hb : W.heap.size = b at *
  have HBS := Lib.hid hb; clear hb
  have hbld : Lib.IsBuilderF 75 5 b b [] W1 := Lib.IsBuilderF.of (.inl ⟨Nat.le_refl _, _, hbn, World.ownsRow_nil _ _ _ _, by simp [Value.ownBlock]⟩)
  clear hbn
  refine ⟨trivial, (callsIn_wide.2 (HGR.out W1 hkb)).mono ?_⟩
  rintro e w2 ⟨g, K, rfl, hg2, hv, hN, hge, hw2⟩
  have hbld2 : Lib.IsBuilderF 75 5 b b (Lib.byteCells ([] : List UInt8)) w2 := by
    rcases hbld with q | q
    · exact .inl (builder_below q hw2)
    · exact .inr (builder_below q hw2)
  have hsz2 := hw2.size
  have hb2 := hBb.trans (hw2.mono (by omega))
  have HV := Lib.hid hv
  have HG := Lib.hid hg2
  have HB2 := Lib.hid hb2
  have hzl : ((digs K a).map Int.ofNat).length = 2 ^ K := by rw [List.length_map, digs_zero_len]
  obtain ⟨N, hNN⟩ : ∃ N, 2 ^ K = N := ⟨_, rfl⟩
  rw [hNN] at hN hzl
  have ht2 := trim_any (some ⟨g, 0, none⟩) N N ((digs K a).map Int.ofNat) w2 hzl (by omega) (Nat.le_refl _) hg2.at
  obtain ⟨m, hm⟩ : ∃ m, tlen ((digs K a).map Int.ofNat) N = m + 1 := ⟨tlen ((digs K a).map Int.ofNat) N - 1, by have := tlen_pos K a h0; rw [hNN] at this; omega⟩
  rw [hm] at ht2
  obtain ⟨ht0, hmN, hdec⟩ := dec_digs K a m hv (by rw [hNN]; exact hm)
  rw [hNN] at hmN
  obtain ⟨t, ht⟩ : ∃ t, (digs K a).getD m 0 = t := ⟨_, rfl⟩
  have ht9 : t < 1000000000 := by rw [← ht]; exact digs_get K a m hv
  have c1 : w2.cell? ⟨g, m, none⟩ = some (.int .u32 (t : Int)) := by
    have := hg2.cell m (by rw [hzl]; exact hmN)
    rw [List.getD, digs_int, ht] at this; exact this
  rw [ht] at ht0 hdec
  have HDEC := Lib.hid hdec
  have HM := Lib.hid hm
  have HT := Lib.hid ht
  have HNN := Lib.hid hNN
  have HZL := Lib.hid hzl
  rw [HNN.out]
  clear hdec hm ht hNN hzl hv hg2 hb2
  gi_wp2_with fail
  refine ⟨trivial, (callsIn_wide.2 ht2).mono ?_⟩
  rintro e w3 ⟨rfl, rfl⟩
  have hu1 : ((m + 1 : Nat) : Int) - 1 = (m : Int) := by omega
  have hu2 : IntKind.u64.wrap (t : Int) = (t : Int) := by rw [IntKind.wrap_u64]; omega
  have hu3 : (m : Int) < ((m + 1 : Nat) : Int) := by omega
  clear ht2
  gi_wp2_with fail
  refine ⟨trivial, (callsIn_wide.2 (formatUint_any t (by omega) w2 (HP.out w2 (hB.trans (HB2.out.mono (by omega)))))).mono ?_⟩
  rintro e w4 ⟨rfl, hw4⟩
  have hz4 := hw4.size
  have hbld4 : Lib.IsBuilderF 75 5 b b (Lib.byteCells ([] : List UInt8)) w4 := by
    rcases hbld2 with q | q
    · exact .inl (builder_below q hw4)
    · exact .inr (builder_below q hw4)
  have hblk4 : Blk w4 g ((digs K a).map Int.ofNat) := HG.out.below hw4
  have hb4 := HB2.out.trans (hw4.mono (by omega))
  have hdl : (Lib.decDigits t).length ≤ 9 := dec_len9 ht9
  obtain ⟨d, hd⟩ : ∃ d : ByteArray, (⟨(Lib.decDigits t).toArray⟩ : ByteArray) = d := ⟨_, rfl⟩
  have hds : d.size ≤ 9 := by rw [← hd]; exact hdl
  have hdc : Lib.byteCells ([] : List UInt8) ++ Lib.strCells d = Lib.byteCells (([] : List UInt8) ++ Lib.decDigits t) := by rw [← hd]; simp [Lib.strCells, Lib.byteCells]
  rw [hd]
  clear hd hdl hw4 hbld2 c1 hw2
  gi_wp2_with fail
  refine ⟨trivial, (callsIn_wide.2 (writeString_ka b b _ d w4 hbld4 (by simp [Lib.byteCells]; omega) (by omega))).mono ?_⟩
  rintro e w5 ⟨rfl, hb5, hw5, hk5⟩
  rw [hdc] at hb5
  have hsz5 := hw5.size
  have hb25 := hb4.trans hw5
  have hblk5 : Blk w5 g ((digs K a).map Int.ofNat) := hk5.rows _ _ _ _ hblk4 (by decide) (by decide)
  clear hbld4 hw5 hk5 hblk4 hb4 hdc
  gi_wp2_with fail
  refine ⟨trivial, (callsIn_wide.2 (backward_any _ _ _ w5)).mono ?_⟩
  rintro e w6 ⟨rfl, rfl⟩
  have hcb := (Below.refl w5.heap.size w5).alloc (Nat.le_refl _) (.cells #[.slice (some ⟨g, 0, none⟩) m N] 50)
  have hc6 : (w5.alloc (.cells #[.slice (some ⟨g, 0, none⟩) m N] 50)).heap[w5.heap.size]? = some (.cells #[.slice (some ⟨g, 0, none⟩) m N] 50 (0, 0)) := heap_alloc_new w5 _
  have hz6 : (w5.alloc (.cells #[.slice (some ⟨g, 0, none⟩) m N] 50)).heap.size = w5.heap.size + 1 := by simp
  have hb6 := builder_below hb5 hcb
  have hb26 := hb25.trans (hcb.mono (by omega))
  have hblk6 := hblk5.below hcb
  clear hb5 hb25 hblk5
  gi_wp2_with fail
  generalize w5.alloc (.cells #[.slice (some ⟨g, 0, none⟩) m N] 50) = w6 at *
  generalize w5.heap.size = m5 at *
  obtain ⟨D, hD⟩ : ∃ D : Nat → Nat, D = fun i => (digs K a).getD i 0 := ⟨_, rfl⟩
  have hDlt : ∀ i, D i < 1000000000 := fun i => by rw [hD]; exact digs_get K a i HV.out
  have HDZ := Lib.hid (show ∀ i, ((digs K a).map Int.ofNat)[i]?.getD 0 = ((D i : Nat) : Int) from fun i => by rw [hD]; exact digs_int K a i)
  have HDEC' := Lib.hid (show Lib.decDigits a = Lib.decDigits t ++ (backs m m).flatMap (fun i => padD 9 (D i)) by rw [hD]; exact HDEC.out)
  have hdt : (Lib.decDigits t).length ≤ 9 := dec_len9 ht9
  clear hD
  refine wpIn_rangeFunc_ownF (α := Nat) rfl (by omega) (gf := 77) (lb := #[.pointer (some ⟨m5, 0, none⟩)]) rfl trivial (enters_of Tryz.func77 (by kernel_rfl) rfl)
    (encs := fun x => #[.int .i64 (x : Int), .int .u32 ((D x : Nat) : Int)]) (Kp := KT) (S := fun xs => xs = backs m m) (Sp := fun _ => True) (N := m) (w0 := w6) ?seq KT.trans (fun W l o o' _ hl ho _ => KT.putObj W l o o' hl ho) (Below.refl _ _) (fun _ => rfl)
    (fun pre W => Lib.BuilderAtF 75 5 b b (.pointer (some ⟨b, 0, none⟩)) (Lib.byteCells (([] : List UInt8) ++ Lib.decDigits t ++ pre.flatMap (fun i => padD 9 (D i)))) W ∧ Below b w6 W)
    (fun _ _ _ => False) (OwnFrom.and (builder_own _ _) (ownFrom_below (by omega) (by omega))) (fun _ _ _ _ _ hs _ _ => hs) ⟨by rw [List.flatMap_nil, List.append_nil]; exact hb6, Below.refl _ _⟩
    (fun x => { tmps := #[.agg #[.bool false, .slice ao n ca], .pointer (some ⟨w.heap.size, 0, none⟩), .string ⟨#[]⟩, .slice ao k ca, .pointer (some ⟨b, 0, none⟩), .slice (some ⟨g, 0, none⟩) (m + 1) N, undef, .int .u32 ((D x : Nat) : Int), undef, .pointer (some ⟨w.heap.size, 1, none⟩), .slice ao n ca, .slice ao k ca, .slice ao k ca, .int .i64 (k : Int), .bool false, .pointer (some ⟨w.heap.size, 0, none⟩), .bool false, undef, .slice ao k ca, .slice (some ⟨g, 0, none⟩) N N, .slice (some ⟨g, 0, none⟩) (m + 1) N, .slice (some ⟨g, 0, none⟩) (m + 1) N, .slice (some ⟨g, 0, none⟩) (m + 1) N, .int .i64 ((m : Int) + 1), .int .i64 (m : Int), .pointer (some ⟨g, m, none⟩), .int .u32 (t : Int), .int .u64 (t : Int), .string d, .tuple #[.int .i64 (d.size : Int), .nilIface], .slice (some ⟨g, 0, none⟩) (m + 1) N, .slice (some ⟨g, 0, none⟩) (m + 1) N, .int .i64 ((m : Int) + 1), .int .i64 (m : Int), .slice (some ⟨g, 0, none⟩) m N, .func (.func 77) #[] #[.pointer (some ⟨m5, 0, none⟩)], .int .i64 (x : Int), .int .u32 ((D x : Nat) : Int), undef, undef, undef, undef, undef, undef, undef, undef, undef, undef, undef], defers := [] }) ?assign ?body ?done ?stop
  case seq =>
    intro l J Jx W' hW' _ _ hY hJ
    exact backward_in l m N g m5 _ J Jx (fun pre x W hj hl => by rw [HDZ.out]; exact hY pre x W hj hl) W' ((hW'.block m5 (by omega)).trans hc6) (hblk6.below hW') (by rw [HZL.out]; omega) (by omega) hJ
  case assign =>
    intro l x W K hK
    gi_wp2
    exact hK
  case stop =>
    rintro D c pre W' _ _ hp _
    exact hp.elim
  case body =>
    rintro l pre x W ⟨hb, hbl⟩ hlt
    obtain ⟨u, hu⟩ : ∃ u, D x = u := ⟨_, rfl⟩
    have hu9 : u < 1000000000 := by rw [← hu]; exact hDlt x
    rw [hu]
    have hu2 : IntKind.u64.wrap (u : Int) = (u : Int) := by rw [IntKind.wrap_u64]; omega
    have hfl := flat_len D pre
    obtain ⟨L, hL⟩ : ∃ L, ([] : List UInt8) ++ Lib.decDigits t ++ pre.flatMap (fun i => padD 9 (D i)) = L := ⟨_, rfl⟩
    have hLl : L.length ≤ 100000 := by rw [← hL]; simp only [List.length_append, hfl]; simp; omega
    have HL := Lib.hid (show Lib.byteCells (([] : List UInt8) ++ Lib.decDigits t ++ (pre ++ [x]).flatMap (fun i => padD 9 (D i))) = Lib.byteCells L ++ (Lib.byteCells (Lib.repeatL [48] (9 - (Lib.decDigits u).length)) ++ Lib.byteCells (Lib.decDigits u)) by
      rw [List.flatMap_append, ← List.append_assoc, hL]
      simp only [List.flatMap_cons, List.flatMap_nil, List.append_nil, hu, padD_dec 9 u (by omega) hu9, repeatL_48, Lib.byteCells, List.map_append])
    rw [hL] at hb
    have hdu : (Lib.decDigits u).length ≤ 9 := dec_len9 hu9
    obtain ⟨d2, hd2⟩ : ∃ d2 : ByteArray, (⟨(Lib.decDigits u).toArray⟩ : ByteArray) = d2 := ⟨_, rfl⟩
    have hz2 : d2.size = (Lib.decDigits u).length := by rw [← hd2]; rfl
    have hc2 : Lib.strCells d2 = Lib.byteCells (Lib.decDigits u) := by rw [← hd2]; simp [Lib.strCells, Lib.byteCells]
    have hFU := formatUint_any u (by omega) W (HP.out W (hB.trans ((hb26.trans hbl).mono (by omega))))
    have hWz := hbl.size
    rw [hd2] at hFU
    have hw9 : (9 : Int) - (d2.size : Int) = ((9 - d2.size : Nat) : Int) := by omega
    have HZ2 := Lib.hid hz2
    have HC2 := Lib.hid hc2
    have HFU := Lib.hid hFU
    have hd9 : d2.size ≤ 9 := by omega
    clear hu hL hfl hd2 hz2 hc2 hFU hdu
    gi_wp2_with fail
    refine ⟨trivial, CallsIn.inRound l ((callsIn_wide.2 HFU.out).mono ?_)⟩
    rintro e v1 ⟨rfl, hv1⟩
    have hs1 := hv1.size
    have hbA := builder_below hb hv1
    have hRP := Tryz.strings_Repeat ⟨#[48]⟩ (9 - d2.size) v1 (by omega) (by show 1 * _ ≤ _; omega)
    obtain ⟨r, hr⟩ : ∃ r : ByteArray, (⟨(Lib.repeatL (ByteArray.mk #[48]).data.toList (9 - d2.size)).toArray⟩ : ByteArray) = r := ⟨_, rfl⟩
    have hcr : Lib.strCells r = Lib.byteCells (Lib.repeatL [48] (9 - (Lib.decDigits u).length)) := by rw [← hr, HZ2.out]; simp [Lib.strCells, Lib.byteCells]
    have hrz : r.size ≤ 9 := by
      rw [← Lib.strCells_length, hcr]
      simp only [Lib.byteCells, List.length_map, repeatL_48, List.length_replicate]
      omega
    rw [hr] at hRP
    have HRP := Lib.hid hRP
    have HCR := Lib.hid hcr
    clear hr hb hRP hcr
    gi_wp2_with fail
    refine ⟨trivial, CallsIn.inRound l ((callsIn_wide.2 HRP.out).mono ?_)⟩
    rintro e v2 ⟨rfl, hv2⟩
    have hs2 := hv2.size
    have hbB := builder_below hbA hv2
    clear hbA
    gi_wp2_with fail
    refine ⟨trivial, CallsIn.inRound l ((callsIn_wide.2 (writeString_ka b b _ r v2 (.inr hbB) (by simp [Lib.byteCells]; omega) (by omega))).mono ?_)⟩
    rintro e v3 ⟨rfl, hb3, hw3, hk3⟩
    have hs3 := hw3.size
    gi_wp2_with fail
    refine ⟨trivial, CallsIn.inRound l ((callsIn_wide.2 (writeString_ka b b _ d2 v3 (.inr hb3) (by simp [Lib.byteCells, Lib.strCells_length]; omega) (by omega))).mono ?_)⟩
    rintro e v4 ⟨rfl, hb4, hw4, hk4⟩
    have hs4 := hw4.size
    have hka : KA W v4 := (((KA.of_below hv1).trans (KA.of_below hv2)).trans hk3).trans hk4
    have hbw : Below b w6 v4 := (((hbl.trans (hv1.mono (by omega))).trans (hv2.mono (by omega))).trans hw3).trans hw4
    have hI : Lib.BuilderAtF 75 5 b b (.pointer (some ⟨b, 0, none⟩)) (Lib.byteCells (([] : List UInt8) ++ Lib.decDigits t ++ (pre ++ [x]).flatMap (fun i => padD 9 (D i)))) v4 := by
      rw [HL.out, ← HCR.out, ← HC2.out, ← List.append_assoc]; exact hb4
    clear hb3 hb4 hw3 hw4 hk3 hk4
    gi_wp2
    exact ⟨hka.keeps (by omega), hka.rows, hI, hbw⟩
  case done =>
    rintro E ys W' hE rfl ⟨hb7, hW'⟩ hK
    have hb27 := hb26.trans hW'
    have hsz7 := hW'.size
    rw [List.append_assoc, ← HDEC'.out] at hb7
    clear hb6 hW' hb26 hc6 hcb hblk6
    gi_wp2_with fail
    refine ⟨trivial, (callsIn_wide.2 (Tryz.Builder_String_any_k b b (([] : List UInt8) ++ Lib.decDigits a) W' (.inr hb7) (by omega))).mono ?_⟩
    rintro e w8 ⟨rfl, _, hw8, hk8⟩
    have hD8 : w8.heap[E]? = some (.deferred (some [])) := hk8 E _ hK (by simp; omega) (fun c fz => by simp)
    have hb28 := hb27.trans hw8
    have hlt8 := (Array.getElem?_eq_some_iff.1 hD8).1
    gi_wp2
    refine ⟨by simp, .inl ⟨_, _, rfl, run_takeDeferred hD8, ?_⟩⟩
    refine ⟨_, results_tmp rfl _ _ _, ?_, ?_⟩
    · rfl
    · have hw : Below w.heap.size w w8 := hB.trans (hb28.mono (by omega))
      exact hw.trans (belowK_b (w := w) (Nat.le_refl _) w8 E _ _ (by omega) hD8 rfl rfl)

set_option maxRecDepth 100000 in
set_option maxHeartbeats 4000000 in
theorem format_neg (a : Nat) (ao : Option Addr) (n ca : Nat) (zs : List Int) (w : World) (h : Sl w ao n ca zs) (ha : (num zs).toNat = a) (h0 : 0 < a) (hn : n < 100) (hP : Pow10 w) :
    CallsIn Fence.wide 100 Tryz.prog 30 #[.agg #[.bool true, .slice ao n ca]] w fun e w' => e = .returned (.string ⟨(([45] : List UInt8) ++ Lib.decDigits a).toArray⟩) ∧ Ext w w' := by
  have htr := trim_sl ao n ca zs
  rw [ha] at htr
  have hln : (limbs a).length ≤ n := by rw [← ha, ← h.len]; exact limbs_len_toNat h.wf
  have HP := Lib.hid (show ∀ W, Below w.heap.size w W → Pow10 W from fun W hW => hP.below hW)
  clear hP
  refine callsIn_of_wp_marks Tryz.func30 rfl trivial ?_ rfl
  simp only [Tryz.ntmps30, List.size_toArray, List.length_cons, List.length_nil, Nat.reduceAdd, Nat.reduceSub, Array.replicate_succ, Array.replicate_zero, List.push_toArray, List.append_toArray, List.nil_append, List.cons_append]
  have hx := Box.new w true ao n ca
  have hB := (Below.refl w.heap.size w).alloc (Nat.le_refl _) (.cells #[.bool true, .slice ao n ca] 52)
  have hs := h.below hB
  have HTR := Lib.hid (htr _ hs)
  clear htr
  gi_wp2_with fail
  refine ⟨trivial, (callsIn_wide.2 HTR.out).mono ?_⟩
  rintro e w1 ⟨k, rfl, hk, rfl⟩
  have hk1 : 0 < k := by
    rw [← hk.len]
    rcases Nat.eq_zero_or_pos (limbs a).length with h | h
    · have := limbs_inj ((List.eq_nil_of_length_eq_zero h).trans limbs_zero.symm); omega
    · exact h
  have hk100 : k < 100 := by rw [← hk.len]; omega
  have hkf : ((k : Int) == 0) = false := beq_eq_false_iff_ne.2 (by omega)
  have hkf2 : ¬ (k : Int) = 0 := by omega
  have HGR := Lib.hid (fun W hW => groups_any a ao k ca W hW hk100)
  generalize hW : w.alloc (.cells #[.bool true, .slice ao n ca] 52) = W at *
  clear hW
  have c0 := ((hx.below ((Below.refl W.heap.size W).alloc (Nat.le_refl _) (.cells #[.pointer none, .slice none 0 0] 75))).c0)
  gi_wp2_with fail
  have hbn : (W.alloc (.cells #[.pointer none, .slice none 0 0] 75)).heap[W.heap.size]? = some (.cells #[.pointer none, .slice none 0 0] 75 (0, 0)) := heap_alloc_new W _
  have hBb := (Below.refl W.heap.size W).alloc (Nat.le_refl _) (.cells #[.pointer none, .slice none 0 0] 75)
  have hkb := hk.below hBb
  have hWs := hx.lt
  have hz : (W.alloc (.cells #[.pointer none, .slice none 0 0] 75)).heap.size = W.heap.size + 1 := by simp
  generalize W.alloc (.cells #[.pointer none, .slice none 0 0] 75) = W1 at *
  generalize hb : W.heap.size = b at *
  have HBS := Lib.hid hb; clear hb
  have hbld : Lib.IsBuilderF 75 5 b b [] W1 := Lib.IsBuilderF.of (.inl ⟨Nat.le_refl _, _, hbn, World.ownsRow_nil _ _ _ _, by simp [Value.ownBlock]⟩)
  clear hbn
  refine ⟨trivial, (callsIn_wide.2 (writeByte_any b b [] 45 W1 hbld (by simp) (by omega))).mono ?_⟩
  rintro e w1' ⟨rfl, hbw, hww⟩
  have hz' := hww.size
  have hkb' := hk.below (by rw [HBS.out]; exact hBb.trans hww)
  have hBb' := hBb.trans hww
  clear hbld hkb hBb c0
  gi_wp2_with fail
  refine ⟨trivial, (callsIn_wide.2 (HGR.out w1' hkb')).mono ?_⟩
  rintro e w2 ⟨g, K, rfl, hg2, hv, hN, hge, hw2⟩
  have hbld2 : Lib.IsBuilderF 75 5 b b (Lib.byteCells ([45] : List UInt8)) w2 := .inr (builder_below hbw hw2)
  have hsz2 := hw2.size
  have hb2 := hBb'.trans (hw2.mono (by omega))
  have HV := Lib.hid hv
  have HG := Lib.hid hg2
  have HB2 := Lib.hid hb2
  have hzl : ((digs K a).map Int.ofNat).length = 2 ^ K := by rw [List.length_map, digs_zero_len]
  obtain ⟨N, hNN⟩ : ∃ N, 2 ^ K = N := ⟨_, rfl⟩
  rw [hNN] at hN hzl
  have ht2 := trim_any (some ⟨g, 0, none⟩) N N ((digs K a).map Int.ofNat) w2 hzl (by omega) (Nat.le_refl _) hg2.at
  obtain ⟨m, hm⟩ : ∃ m, tlen ((digs K a).map Int.ofNat) N = m + 1 := ⟨tlen ((digs K a).map Int.ofNat) N - 1, by have := tlen_pos K a h0; rw [hNN] at this; omega⟩
  rw [hm] at ht2
  obtain ⟨ht0, hmN, hdec⟩ := dec_digs K a m hv (by rw [hNN]; exact hm)
  rw [hNN] at hmN
  obtain ⟨t, ht⟩ : ∃ t, (digs K a).getD m 0 = t := ⟨_, rfl⟩
  have ht9 : t < 1000000000 := by rw [← ht]; exact digs_get K a m hv
  have c1 : w2.cell? ⟨g, m, none⟩ = some (.int .u32 (t : Int)) := by
    have := hg2.cell m (by rw [hzl]; exact hmN)
    rw [List.getD, digs_int, ht] at this; exact this
  rw [ht] at ht0 hdec
  have HDEC := Lib.hid hdec
  have HM := Lib.hid hm
  have HT := Lib.hid ht
  have HNN := Lib.hid hNN
  have HZL := Lib.hid hzl
  rw [HNN.out]
  clear hdec hm ht hNN hzl hv hg2 hb2
  gi_wp2_with fail
  refine ⟨trivial, (callsIn_wide.2 ht2).mono ?_⟩
  rintro e w3 ⟨rfl, rfl⟩
  have hu1 : ((m + 1 : Nat) : Int) - 1 = (m : Int) := by omega
  have hu2 : IntKind.u64.wrap (t : Int) = (t : Int) := by rw [IntKind.wrap_u64]; omega
  have hu3 : (m : Int) < ((m + 1 : Nat) : Int) := by omega
  clear ht2
  gi_wp2_with fail
  refine ⟨trivial, (callsIn_wide.2 (formatUint_any t (by omega) w2 (HP.out w2 (hB.trans (HB2.out.mono (by omega)))))).mono ?_⟩
  rintro e w4 ⟨rfl, hw4⟩
  have hz4 := hw4.size
  have hbld4 : Lib.IsBuilderF 75 5 b b (Lib.byteCells ([45] : List UInt8)) w4 := by
    rcases hbld2 with q | q
    · exact .inl (builder_below q hw4)
    · exact .inr (builder_below q hw4)
  have hblk4 : Blk w4 g ((digs K a).map Int.ofNat) := HG.out.below hw4
  have hb4 := HB2.out.trans (hw4.mono (by omega))
  have hdl : (Lib.decDigits t).length ≤ 9 := dec_len9 ht9
  obtain ⟨d, hd⟩ : ∃ d : ByteArray, (⟨(Lib.decDigits t).toArray⟩ : ByteArray) = d := ⟨_, rfl⟩
  have hds : d.size ≤ 9 := by rw [← hd]; exact hdl
  have hdc : Lib.byteCells ([45] : List UInt8) ++ Lib.strCells d = Lib.byteCells (([45] : List UInt8) ++ Lib.decDigits t) := by rw [← hd]; simp [Lib.strCells, Lib.byteCells]
  rw [hd]
  clear hd hdl hw4 hbld2 c1 hw2
  gi_wp2_with fail
  refine ⟨trivial, (callsIn_wide.2 (writeString_ka b b _ d w4 hbld4 (by simp [Lib.byteCells]; omega) (by omega))).mono ?_⟩
  rintro e w5 ⟨rfl, hb5, hw5, hk5⟩
  rw [hdc] at hb5
  have hsz5 := hw5.size
  have hb25 := hb4.trans hw5
  have hblk5 : Blk w5 g ((digs K a).map Int.ofNat) := hk5.rows _ _ _ _ hblk4 (by decide) (by decide)
  clear hbld4 hw5 hk5 hblk4 hb4 hdc
  gi_wp2_with fail
  refine ⟨trivial, (callsIn_wide.2 (backward_any _ _ _ w5)).mono ?_⟩
  rintro e w6 ⟨rfl, rfl⟩
  have hcb := (Below.refl w5.heap.size w5).alloc (Nat.le_refl _) (.cells #[.slice (some ⟨g, 0, none⟩) m N] 50)
  have hc6 : (w5.alloc (.cells #[.slice (some ⟨g, 0, none⟩) m N] 50)).heap[w5.heap.size]? = some (.cells #[.slice (some ⟨g, 0, none⟩) m N] 50 (0, 0)) := heap_alloc_new w5 _
  have hz6 : (w5.alloc (.cells #[.slice (some ⟨g, 0, none⟩) m N] 50)).heap.size = w5.heap.size + 1 := by simp
  have hb6 := builder_below hb5 hcb
  have hb26 := hb25.trans (hcb.mono (by omega))
  have hblk6 := hblk5.below hcb
  clear hb5 hb25 hblk5
  gi_wp2_with fail
  generalize w5.alloc (.cells #[.slice (some ⟨g, 0, none⟩) m N] 50) = w6 at *
  generalize w5.heap.size = m5 at *
  obtain ⟨D, hD⟩ : ∃ D : Nat → Nat, D = fun i => (digs K a).getD i 0 := ⟨_, rfl⟩
  have hDlt : ∀ i, D i < 1000000000 := fun i => by rw [hD]; exact digs_get K a i HV.out
  have HDZ := Lib.hid (show ∀ i, ((digs K a).map Int.ofNat)[i]?.getD 0 = ((D i : Nat) : Int) from fun i => by rw [hD]; exact digs_int K a i)
  have HDEC' := Lib.hid (show Lib.decDigits a = Lib.decDigits t ++ (backs m m).flatMap (fun i => padD 9 (D i)) by rw [hD]; exact HDEC.out)
  have hdt : (Lib.decDigits t).length ≤ 9 := dec_len9 ht9
  clear hD
  refine wpIn_rangeFunc_ownF (α := Nat) rfl (by omega) (gf := 77) (lb := #[.pointer (some ⟨m5, 0, none⟩)]) rfl trivial (enters_of Tryz.func77 (by kernel_rfl) rfl)
    (encs := fun x => #[.int .i64 (x : Int), .int .u32 ((D x : Nat) : Int)]) (Kp := KT) (S := fun xs => xs = backs m m) (Sp := fun _ => True) (N := m) (w0 := w6) ?seq KT.trans (fun W l o o' _ hl ho _ => KT.putObj W l o o' hl ho) (Below.refl _ _) (fun _ => rfl)
    (fun pre W => Lib.BuilderAtF 75 5 b b (.pointer (some ⟨b, 0, none⟩)) (Lib.byteCells (([45] : List UInt8) ++ Lib.decDigits t ++ pre.flatMap (fun i => padD 9 (D i)))) W ∧ Below b w6 W)
    (fun _ _ _ => False) (OwnFrom.and (builder_own _ _) (ownFrom_below (by omega) (by omega))) (fun _ _ _ _ _ hs _ _ => hs) ⟨by rw [List.flatMap_nil, List.append_nil]; exact hb6, Below.refl _ _⟩
    (fun x => { tmps := #[.agg #[.bool true, .slice ao n ca], .pointer (some ⟨w.heap.size, 0, none⟩), .string ⟨#[]⟩, .slice ao k ca, .pointer (some ⟨b, 0, none⟩), .slice (some ⟨g, 0, none⟩) (m + 1) N, undef, .int .u32 ((D x : Nat) : Int), undef, .pointer (some ⟨w.heap.size, 1, none⟩), .slice ao n ca, .slice ao k ca, .slice ao k ca, .int .i64 (k : Int), .bool false, .pointer (some ⟨w.heap.size, 0, none⟩), .bool true, .nilIface, .slice ao k ca, .slice (some ⟨g, 0, none⟩) N N, .slice (some ⟨g, 0, none⟩) (m + 1) N, .slice (some ⟨g, 0, none⟩) (m + 1) N, .slice (some ⟨g, 0, none⟩) (m + 1) N, .int .i64 ((m : Int) + 1), .int .i64 (m : Int), .pointer (some ⟨g, m, none⟩), .int .u32 (t : Int), .int .u64 (t : Int), .string d, .tuple #[.int .i64 (d.size : Int), .nilIface], .slice (some ⟨g, 0, none⟩) (m + 1) N, .slice (some ⟨g, 0, none⟩) (m + 1) N, .int .i64 ((m : Int) + 1), .int .i64 (m : Int), .slice (some ⟨g, 0, none⟩) m N, .func (.func 77) #[] #[.pointer (some ⟨m5, 0, none⟩)], .int .i64 (x : Int), .int .u32 ((D x : Nat) : Int), undef, undef, undef, undef, undef, undef, undef, undef, undef, undef, undef], defers := [] }) ?assign ?body ?done ?stop
  case seq =>
    intro l J Jx W' hW' _ _ hY hJ
    exact backward_in l m N g m5 _ J Jx (fun pre x W hj hl => by rw [HDZ.out]; exact hY pre x W hj hl) W' ((hW'.block m5 (by omega)).trans hc6) (hblk6.below hW') (by rw [HZL.out]; omega) (by omega) hJ
  case assign =>
    intro l x W K hK
    gi_wp2
    exact hK
  case stop =>
    rintro D c pre W' _ _ hp _
    exact hp.elim
  case body =>
    rintro l pre x W ⟨hb, hbl⟩ hlt
    obtain ⟨u, hu⟩ : ∃ u, D x = u := ⟨_, rfl⟩
    have hu9 : u < 1000000000 := by rw [← hu]; exact hDlt x
    rw [hu]
    have hu2 : IntKind.u64.wrap (u : Int) = (u : Int) := by rw [IntKind.wrap_u64]; omega
    have hfl := flat_len D pre
    obtain ⟨L, hL⟩ : ∃ L, ([45] : List UInt8) ++ Lib.decDigits t ++ pre.flatMap (fun i => padD 9 (D i)) = L := ⟨_, rfl⟩
    have hLl : L.length ≤ 100000 := by rw [← hL]; simp only [List.length_append, hfl]; simp; omega
    have HL := Lib.hid (show Lib.byteCells (([45] : List UInt8) ++ Lib.decDigits t ++ (pre ++ [x]).flatMap (fun i => padD 9 (D i))) = Lib.byteCells L ++ (Lib.byteCells (Lib.repeatL [48] (9 - (Lib.decDigits u).length)) ++ Lib.byteCells (Lib.decDigits u)) by
      rw [List.flatMap_append, ← List.append_assoc, hL]
      simp only [List.flatMap_cons, List.flatMap_nil, List.append_nil, hu, padD_dec 9 u (by omega) hu9, repeatL_48, Lib.byteCells, List.map_append])
    rw [hL] at hb
    have hdu : (Lib.decDigits u).length ≤ 9 := dec_len9 hu9
    obtain ⟨d2, hd2⟩ : ∃ d2 : ByteArray, (⟨(Lib.decDigits u).toArray⟩ : ByteArray) = d2 := ⟨_, rfl⟩
    have hz2 : d2.size = (Lib.decDigits u).length := by rw [← hd2]; rfl
    have hc2 : Lib.strCells d2 = Lib.byteCells (Lib.decDigits u) := by rw [← hd2]; simp [Lib.strCells, Lib.byteCells]
    have hFU := formatUint_any u (by omega) W (HP.out W (hB.trans ((hb26.trans hbl).mono (by omega))))
    have hWz := hbl.size
    rw [hd2] at hFU
    have hw9 : (9 : Int) - (d2.size : Int) = ((9 - d2.size : Nat) : Int) := by omega
    have HZ2 := Lib.hid hz2
    have HC2 := Lib.hid hc2
    have HFU := Lib.hid hFU
    have hd9 : d2.size ≤ 9 := by omega
    clear hu hL hfl hd2 hz2 hc2 hFU hdu
    gi_wp2_with fail
    refine ⟨trivial, CallsIn.inRound l ((callsIn_wide.2 HFU.out).mono ?_)⟩
    rintro e v1 ⟨rfl, hv1⟩
    have hs1 := hv1.size
    have hbA := builder_below hb hv1
    have hRP := Tryz.strings_Repeat ⟨#[48]⟩ (9 - d2.size) v1 (by omega) (by show 1 * _ ≤ _; omega)
    obtain ⟨r, hr⟩ : ∃ r : ByteArray, (⟨(Lib.repeatL (ByteArray.mk #[48]).data.toList (9 - d2.size)).toArray⟩ : ByteArray) = r := ⟨_, rfl⟩
    have hcr : Lib.strCells r = Lib.byteCells (Lib.repeatL [48] (9 - (Lib.decDigits u).length)) := by rw [← hr, HZ2.out]; simp [Lib.strCells, Lib.byteCells]
    have hrz : r.size ≤ 9 := by
      rw [← Lib.strCells_length, hcr]
      simp only [Lib.byteCells, List.length_map, repeatL_48, List.length_replicate]
      omega
    rw [hr] at hRP
    have HRP := Lib.hid hRP
    have HCR := Lib.hid hcr
    clear hr hb hRP hcr
    gi_wp2_with fail
    refine ⟨trivial, CallsIn.inRound l ((callsIn_wide.2 HRP.out).mono ?_)⟩
    rintro e v2 ⟨rfl, hv2⟩
    have hs2 := hv2.size
    have hbB := builder_below hbA hv2
    clear hbA
    gi_wp2_with fail
    refine ⟨trivial, CallsIn.inRound l ((callsIn_wide.2 (writeString_ka b b _ r v2 (.inr hbB) (by simp [Lib.byteCells]; omega) (by omega))).mono ?_)⟩
    rintro e v3 ⟨rfl, hb3, hw3, hk3⟩
    have hs3 := hw3.size
    gi_wp2_with fail
    refine ⟨trivial, CallsIn.inRound l ((callsIn_wide.2 (writeString_ka b b _ d2 v3 (.inr hb3) (by simp [Lib.byteCells, Lib.strCells_length]; omega) (by omega))).mono ?_)⟩
    rintro e v4 ⟨rfl, hb4, hw4, hk4⟩
    have hs4 := hw4.size
    have hka : KA W v4 := (((KA.of_below hv1).trans (KA.of_below hv2)).trans hk3).trans hk4
    have hbw : Below b w6 v4 := (((hbl.trans (hv1.mono (by omega))).trans (hv2.mono (by omega))).trans hw3).trans hw4
    have hI : Lib.BuilderAtF 75 5 b b (.pointer (some ⟨b, 0, none⟩)) (Lib.byteCells (([45] : List UInt8) ++ Lib.decDigits t ++ (pre ++ [x]).flatMap (fun i => padD 9 (D i)))) v4 := by
      rw [HL.out, ← HCR.out, ← HC2.out, ← List.append_assoc]; exact hb4
    clear hb3 hb4 hw3 hw4 hk3 hk4
    gi_wp2
    exact ⟨hka.keeps (by omega), hka.rows, hI, hbw⟩
  case done =>
    rintro E ys W' hE rfl ⟨hb7, hW'⟩ hK
    have hb27 := hb26.trans hW'
    have hsz7 := hW'.size
    rw [List.append_assoc, ← HDEC'.out] at hb7
    clear hb6 hW' hb26 hc6 hcb hblk6
    gi_wp2_with fail
    refine ⟨trivial, (callsIn_wide.2 (Tryz.Builder_String_any_k b b (([45] : List UInt8) ++ Lib.decDigits a) W' (.inr hb7) (by omega))).mono ?_⟩
    rintro e w8 ⟨rfl, _, hw8, hk8⟩
    have hD8 : w8.heap[E]? = some (.deferred (some [])) := hk8 E _ hK (by simp; omega) (fun c fz => by simp)
    have hb28 := hb27.trans hw8
    have hlt8 := (Array.getElem?_eq_some_iff.1 hD8).1
    gi_wp2
    refine ⟨by simp, .inl ⟨_, _, rfl, run_takeDeferred hD8, ?_⟩⟩
    refine ⟨_, results_tmp rfl _ _ _, ?_, ?_⟩
    · rfl
    · have hw : Below w.heap.size w w8 := hB.trans (hb28.mono (by omega))
      exact hw.trans (belowK_b (w := w) (Nat.le_refl _) w8 E _ _ (by omega) hD8 rfl rfl)

set_option maxRecDepth 100000 in
set_option maxHeartbeats 4000000 in
theorem format_zero (nb : Bool) (ao : Option Addr) (n ca : Nat) (zs : List Int) (w : World) (h : Sl w ao n ca zs) (ha : (num zs).toNat = 0) :
    CallsIn Fence.wide 100 Tryz.prog 30 #[.agg #[.bool nb, .slice ao n ca]] w fun e w' => e = .returned (.string ⟨#[48]⟩) ∧ Ext w w' := by
  have htr := trim_sl ao n ca zs
  rw [ha] at htr
  refine callsIn_of_wp_marks Tryz.func30 rfl trivial ?_ rfl
  simp only [Tryz.ntmps30, List.size_toArray, List.length_cons, List.length_nil, Nat.reduceAdd, Nat.reduceSub, Array.replicate_succ, Array.replicate_zero, List.push_toArray, List.append_toArray, List.nil_append, List.cons_append]
  have hx := Box.new w nb ao n ca
  have hB := (Below.refl w.heap.size w).alloc (Nat.le_refl _) (.cells #[.bool nb, .slice ao n ca] 52)
  have hs := h.below hB
  have HTR := Lib.hid (htr _ hs)
  clear htr
  gi_wp2_with fail
  refine ⟨trivial, (callsIn_wide.2 HTR.out).mono ?_⟩
  rintro e w1 ⟨k, rfl, hk, rfl⟩
  have hk0 : k = 0 := by rw [← hk.len, limbs_zero]; rfl
  subst hk0
  gi_wp2
  exact ⟨_, results_tmp rfl _ _ _, rfl, hB⟩

theorem format_any (nb : Bool) (ao : Option Addr) (n ca : Nat) (x : Int) (w : World) (h : Bg w nb ao n ca x) (hn : n < 100) (hP : Pow10 w) (t : ByteArray) (ht : (⟨(texI x).toArray⟩ : ByteArray) = t) :
    Calls Tryz.prog 30 #[.agg #[.bool nb, .slice ao n ca]] w fun e w' => e = .returned (.string t) ∧ Below w.heap.size w w' := by
  obtain ⟨⟨zs, hs, hx⟩, -⟩ := h
  have h0 := num_nonneg hs.wf
  rw [← ht]
  rcases Nat.eq_zero_or_pos (num zs).toNat with hz | hz
  · have hx0 : x = 0 := by rw [hx]; unfold sgd; cases nb <;> simp <;> omega
    have ht0 : texI 0 = [48] := by unfold texI; rw [if_neg (by omega)]; show Lib.decDigits 0 = _; rw [dec_small (by omega)]; rfl
    rw [hx0, ht0]
    exact callsIn_wide.1 (format_zero nb ao n ca zs w hs hz)
  · obtain ⟨a, ha⟩ : ∃ a, (num zs).toNat = a := ⟨_, rfl⟩
    rw [ha] at hz
    cases nb
    · have hx1 : x = (a : Int) := by rw [hx]; unfold sgd; simp; omega
      have ht1 : texI x = [] ++ Lib.decDigits a := by unfold texI; rw [hx1, if_neg (by omega), Int.natAbs_natCast]
      rw [ht1]
      exact callsIn_wide.1 (format_pos a ao n ca zs w hs ha hz hn hP)
    · have hx1 : x = -(a : Int) := by rw [hx]; unfold sgd; simp; omega
      have ht1 : texI x = [45] ++ Lib.decDigits a := by unfold texI; rw [hx1, if_pos (by omega), Int.natAbs_neg, Int.natAbs_natCast]
      rw [ht1]
      exact callsIn_wide.1 (format_neg a ao n ca zs w hs ha hz hn hP)
end Go.Proofs.YthicfkeiggcjjaaGreatDoor
