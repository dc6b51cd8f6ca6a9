/- AccumResidual returns true, from what its callees do. -/
import Derived.Test.YthlnapbjonlncaaGreatDoorHi
import Derived.Test.YthlnapbjonlncaaGreatDoorGp
namespace Go.Proofs.YthlnapbjonlncaaGreatDoor
open Go Go.RowKit

theorem dotF_neg (l m : List Nat) (h : ∀ f ∈ l, finB f = true ∧ f < 18446744073709551616) : dotF (l.map fnegF) m = -dotF l m := by
  induction l generalizing m with
  | nil => simp [dotF]
  | cons f l ih =>
    cases m with
    | nil => simp [dotF]
    | cons g m =>
      have h1 := (fneg_fzs (h f List.mem_cons_self).2 (h f List.mem_cons_self).1).1
      simp only [List.map_cons, dotF, h1, ih m fun x hx => h x (List.mem_cons_of_mem _ hx)]
      rw [Int.neg_mul]; omega

/-- what the statement compares -/
structure ResIs (b : Nat) (x y : List Nat) (d1 d2 r s : Dy) : Prop where
  e1 : dtotal (prods x y) = d1
  e2 : dtotal (prods (x.map fnegF) y) = d2
  n1 : d1 ≠ none
  n2 : d2 ≠ none
  er : dsub (fdy b) d1 = r
  es : dsub (fdy (fnegF b)) d2 = s
  nr : r ≠ none
  ns : s ≠ none
  sum : dadd r d1 = fdy b
  neg : s = dneg r

theorem is_some {d : Dy} {S : Nat} {N : Int} (h : Is d S N) : d ≠ none := by obtain ⟨m, e, h1, _⟩ := h; rw [h1]; simp
theorem res_is {b : Nat} {x y : List Nat} (hb : finB b = true) (hbl : b < 18446744073709551616) (hx : ∀ f ∈ x, finB f = true ∧ f < 18446744073709551616) (hy : ∀ f ∈ y, finB f = true) (hl : x.length ≤ 1000000) : ∃ d1 d2 r s, ResIs b x y d1 d2 r s := by
  have hx1 : ∀ f ∈ x, finB f = true := fun f hf => (hx f hf).1
  have hx2 : ∀ f ∈ x.map fnegF, finB f = true := by
    intro f hf
    obtain ⟨g, hg, rfl⟩ := List.mem_map.1 hf
    exact (fneg_fzs (hx g hg).2 (hx g hg).1).2
  have e1 := dotF_dy hx1 hy hl
  have e2 := dotF_dy hx2 hy (by rw [List.length_map]; exact hl)
  have b1 := dotF_lt hx1 hy
  rw [dotF_neg x y hx] at e2
  obtain ⟨nb1, nb2⟩ := fneg_fzs hbl hb
  have f1 := fdy_up hb
  have f2 := fdy_up nb2
  rw [nb1] at f2
  obtain ⟨D, hD⟩ : ∃ D, dotF x y = D := ⟨_, rfl⟩
  obtain ⟨P, hP⟩ : ∃ P, fzs b * 2 ^ low74 = P := ⟨_, rfl⟩
  rw [hD] at e1 e2 b1
  rw [Int.neg_mul] at f2
  rw [hP] at f1 f2
  have hPb : P.natAbs < 2 ^ (20 + ((52 + low46) + (52 + low46))) := by
    rw [← hP]
    exact Nat.lt_of_lt_of_le (pow_bound (fzs_lt hb) (Nat.le_refl _)) (Nat.pow_le_pow_right (by omega) (by rw [low46_le]; unfold low74; omega))
  have hDb : D.natAbs < 2 ^ (20 + ((52 + low46) + (52 + low46))) := by
    have h2 : x.length * 2 ^ ((52 + low46) + (52 + low46)) ≤ 1000000 * 2 ^ ((52 + low46) + (52 + low46)) := Nat.mul_le_mul_right _ hl
    have h3 : 1000000 * 2 ^ ((52 + low46) + (52 + low46)) < 2 ^ 20 * 2 ^ ((52 + low46) + (52 + low46)) := Nat.mul_lt_mul_of_pos_right (by omega) (Nat.pow_pos (by omega))
    rw [← Nat.pow_add] at h3
    omega
  have hbig : 20 + ((52 + low46) + (52 + low46)) + 1 ≤ 65536 := by rw [low46_le]; omega
  have r1 := Is.sub f1 e1 (by omega) (abs_sub_lt hPb hDb) hbig
  have s1 := Is.sub f2 e2 (by omega) (B := 20 + ((52 + low46) + (52 + low46)) + 1) (by
    have := abs_sub_lt hPb hDb
    rw [show -P - -D = -(P - D) by omega, Int.natAbs_neg]; exact this) hbig
  refine ⟨_, _, _, _, rfl, rfl, is_some e1, is_some e2, rfl, rfl, is_some r1, is_some s1, ?_, ?_⟩
  · have := r1.add e1 (by omega) (B := 20 + ((52 + low46) + (52 + low46))) (by rw [show P - D + D = P by omega]; exact hPb) (by omega)
    rw [show P - D + D = P by omega] at this
    exact this.unique f1
  · have := r1.neg
    rw [show -(P - D) = -P - -D by omega] at this
    exact s1.unique this

theorem okE {d : Dy} (h : d ≠ none) : chkE d = 0 ∧ chk d = d := ⟨if_neg h, if_neg h⟩

set_option maxRecDepth 100000 in
set_option maxHeartbeats 32000000 in
theorem aresl_walk (b : Nat) (hb : b < 18446744073709551616) (ao bo : Option Addr) (n cap cb : Nat) (x y : List Nat) (d1 d2 r s : Dy) (w : World) (hx : Fs w ao n cap x) (hy : Fs w bo n cb y) (hT : Table w) (hT6 : Table64 w) (hn : n ≤ 10)
    (hlt : ∀ f ∈ x, f < 18446744073709551616) (I : ResIs b x y d1 d2 r s)
    (FX0 : Calls Tryz.prog 19 #[.slice ao n cap] w fun e w' => e = .returned (.bool true) ∧ w = w')
    (FY0 : Calls Tryz.prog 19 #[.slice bo n cb] w fun e w' => e = .returned (.bool true) ∧ w = w')
    (FB0 : Calls Tryz.prog 8 #[.int .u64 (b : Int)] w fun e w' => e = .returned (.bool true) ∧ w = w')
    (AW0 : ∀ W, Ext w W → Calls Tryz.prog 9 #[] W fun e w' => e = .returned (.bool true) ∧ Ext W w') :
    Calls Tryz.prog 6 #[.int .u64 (b : Int), .slice ao n cap, .slice bo n cb] w fun e w' => e = .returned (.bool true) ∧ Ext w w' := by
  have AW := Lib.hid AW0
  have FX := Lib.hid FX0
  have FY := Lib.hid FY0
  have FB := Lib.hid FB0
  have HXL := Lib.hid hx.len
  have HLT := Lib.hid hlt
  have CR1 : ∀ W, Ext w W → Calls Tryz.prog 29 #[.int .u64 (b : Int), .slice ao n cap, .slice bo n cb] W fun e w' => ∃ v, e = .returned (.tuple #[v, .int .i64 0]) ∧ Dn w' v r ∧ Ext W w' := fun W hE => by
    have := ares_any b hb ao bo n cap cb x y W (hx.below hE) (hy.below hE) (hT.below hE) (hT6.below hE) (by omega) (by rw [I.e1]; exact I.n1) _ d1 r rfl I.e1 I.er
    rw [(okE I.nr).1, (okE I.nr).2] at this
    exact this
  have CD : ∀ W, Ext w W → Calls Tryz.prog 22 #[.slice ao n cap, .slice bo n cb] W fun e w' => ∃ v, e = .returned (.tuple #[v, .int .i64 0]) ∧ Dn w' v d1 ∧ Ext W w' := fun W hE => by
    have := adot_any ao bo n cap cb x y W (hx.below hE) (hy.below hE) (hT.below hE) (hT6.below hE) (by omega)
    rw [I.e1, (okE I.n1).1, (okE I.n1).2] at this
    exact this
  obtain ⟨bn, hbn⟩ : ∃ bn, fnegF b = bn := ⟨_, rfl⟩
  have hbnl : bn < 18446744073709551616 := by rw [← hbn]; exact fnegF_lt
  have CR2 : ∀ W ao' cap', Ext w W → Fs W ao' n cap' (x.map fnegF) → Calls Tryz.prog 29 #[.int .u64 (bn : Int), .slice ao' n cap', .slice bo n cb] W fun e w' => ∃ v, e = .returned (.tuple #[v, .int .i64 0]) ∧ Dn w' v s ∧ Ext W w' := fun W ao' cap' hE hf => by
    have := ares_any bn hbnl ao' bo n cap' cb (x.map fnegF) y W hf (hy.below hE) (hT.below hE) (hT6.below hE) (by omega) (by rw [I.e2]; exact I.n2) _ d2 s rfl I.e2 (by rw [← hbn]; exact I.es)
    rw [(okE I.ns).1, (okE I.ns).2] at this
    exact this
  have CR1 := Lib.hid CR1
  have CD := Lib.hid CD
  have CR2 := Lib.hid CR2
  obtain ⟨db, hdb⟩ : ∃ d, fdy b = d := ⟨_, rfl⟩
  have CB := Lib.hid (fun W (hE : Ext w W) => fof_at (f := b) hb hdb W (hT6.below hE))
  have CN := Lib.hid (fun W => negF_at hb hbn W)
  have HTT := Lib.hid (fun W (hE : Ext w W) => hT.below hE)
  have hsum := I.sum
  rw [hdb] at hsum
  have HSUM := Lib.hid hsum
  have HNEG := Lib.hid I.neg
  have HX := Lib.hid hx
  clear FX0 FY0 FB0 AW0 hx hy hT hT6 I hbn hdb hsum hb hbnl hlt
  go_enter Tryz.func6, Tryz.ntmps6
  go_wp2_with fail
  refine FX.out.mono ?_
  rintro e w1 ⟨rfl, rfl⟩
  go_wp2_with fail
  refine FY.out.mono ?_
  rintro e w1 ⟨rfl, rfl⟩
  go_wp2_with fail
  refine FB.out.mono ?_
  rintro e w1 ⟨rfl, rfl⟩
  obtain ⟨B, hBe⟩ : ∃ B, w.heap.size = B := ⟨_, rfl⟩
  have HBe := Lib.hid hBe
  have HEX : ∀ wx, Below B w wx → Ext w wx := fun wx h => by rw [← hBe] at h; exact h
  have HEX := Lib.hid HEX
  have hB0 : B ≤ w.heap.size := by omega
  clear hBe
  go_wp2
  go_loopw [7, 8] (fun v ix wr => ∃ (j : Nat) (L : List Nat), j ≤ n ∧ ix = .int .i64 j ∧ L = (x.take j).map fnegF ∧ OF wr B v L ∧ Below B w wr ∧ B ≤ wr.heap.size)
    (fun _ ix _ => n - (intOf ix).toNat)
  case atStart => exact ⟨0, [], Nat.zero_le _, rfl, rfl, OF.nil w B, Below.refl B w, hB0⟩
  case round =>
    obtain ⟨j, L, hj, rfl, hL, hown, hE, hBs⟩ := hrel
    by_cases hlt : j < n
    · have hx := HX.out.below (HEX.out _ hE)
      obtain ⟨b', off, rfl, hc⟩ := hx.cells (by omega)
      have hcj := hc j hlt
      have hfl := hx.getD_lt j
      have hnext : (x.take (j + 1)).map fnegF = L ++ [fnegF (x.getD j 0)] := by
        rw [List.take_succ_eq_append_getElem (by rw [HXL.out]; exact hlt), List.map_append, hL]
        simp [List.getD, show j < x.length by rw [HXL.out]; exact hlt]
      have hLl : L.length ≤ 1000000 := by rw [hL, List.length_map, List.length_take]; omega
      obtain ⟨f, hf⟩ : ∃ f, x.getD j 0 = f := ⟨_, rfl⟩
      rw [hf] at hcj hfl hnext
      obtain ⟨g, hg⟩ : ∃ g, fnegF f = g := ⟨_, rfl⟩
      rw [hg] at hnext
      have C := Lib.hid (negF_at hfl hg wr)
      have HN := Lib.hid hnext
      clear hc hx hf hg hnext hL hfl
      go_wp2_with fail
      refine C.out.mono ?_
      rintro e w1 ⟨rfl, rfl⟩
      go_wp2_with (at_builtin; refine wpList_append_float _ rfl (.tmp 47) (.tmp 53) rfl B _ L g rfl rfl hown hBs hLl ?_)
      intro v' w2 hown2 hB2
      have hE2 := hE.trans hB2
      have hsz := hB2.size
      go_wp2
      go_roundw
      case rel => exact ⟨j + 1, _, by omega, by go_num, HN.out.symm, hown2, hE2, by omega⟩
      case measure => simp [intOf] <;> omega
    · obtain rfl : j = n := by omega
      rw [List.take_of_length_le (by rw [HXL.out]; exact Nat.le_refl _)] at hL
      obtain ⟨ao', cap', hv, hfs⟩ := hown.form (by
        intro f hf
        rw [hL] at hf
        obtain ⟨g, _, rfl⟩ := List.mem_map.1 hf
        exact fnegF_lt)
      have hLl : L.length = j := by rw [hL, List.length_map]; exact HXL.out
      rw [hLl] at hv hfs
      rw [hL] at hfs
      subst hv
      have hE := HEX.out _ hE
      clear hL hLl hown hlt hBs
      go_wp2_with fail
      refine (CR1.out _ hE).mono ?_
      rintro e w2 ⟨v1, rfl, hv1, hw2⟩
      obtain ⟨ab, an, ao2, ak, ac, ae, rfl⟩ := hv1.parts
      have hfs := hfs.below hw2
      have hE := Ext.trans hE hw2
      clear hw2
      go_upto_region 9 with fail
      obtain ⟨V, hV, hVB, hvx, hvz⟩ := dbox_new w2 ab an ao2 ak ac ae
      rw [← hV]
      clear hV
      have hv1 := hv1.ext hVB
      have hfs := hfs.below hVB
      have hE := Ext.trans hE hVB
      clear hVB hvz
      generalize w2.heap.size = P1 at *
      go_wp2_with fail
      refine (CD.out _ hE).mono ?_
      rintro e w3 ⟨v2, rfl, hv2, hw3⟩
      obtain ⟨bb, bn2, bo2, bk, bc, be, rfl⟩ := hv2.parts
      have hfs := hfs.below hw3
      have hv1 := hv1.ext hw3
      have hvx := hvx.below hw3
      have hE := Ext.trans hE hw3
      clear hw3
      go_upto_region 10 with fail
      obtain ⟨V2, hV, hVB, hvy, hvz⟩ := dbox_new w3 bb bn2 bo2 bk bc be
      rw [← hV]
      clear hV
      have hv1 := hv1.ext hVB
      have hv2 := hv2.ext hVB
      have hfs := hfs.below hVB
      have hvx := hvx.below hVB
      have hE := Ext.trans hE hVB
      clear hVB hvz
      generalize w3.heap.size = P2 at *
      go_wp2_with fail
      refine (CN.out _).mono ?_
      rintro e w4 ⟨rfl, rfl⟩
      go_wp2_with fail
      refine (CR2.out _ _ _ hE hfs).mono ?_
      rintro e w4 ⟨v3, rfl, hv3, hw4⟩
      obtain ⟨cb2, cn, co, ck, cc, ce, rfl⟩ := hv3.parts
      have hv1 := hv1.ext hw4
      have hv2 := hv2.ext hw4
      have hvx := hvx.below hw4
      have hvy := hvy.below hw4
      have hE := Ext.trans hE hw4
      clear hw4 hfs
      go_upto_region 11 with fail
      obtain ⟨V3, hV, hVB, hvw, hvz⟩ := dbox_new w4 cb2 cn co ck cc ce
      rw [← hV]
      clear hV
      have hv1 := hv1.ext hVB
      have hv2 := hv2.ext hVB
      have hv3 := hv3.ext hVB
      have hvx := hvx.below hVB
      have hvy := hvy.below hVB
      have hE := Ext.trans hE hVB
      clear hVB hvz
      generalize w4.heap.size = P3 at *
      have HC : ∀ wx, Ext V3 wx → (wx.cell? ⟨P1, 0, none⟩ = some (.bool ab) ∧ wx.cell? ⟨P1, 1, none⟩ = some (.bool an) ∧ wx.cell? ⟨P1, 2, none⟩ = some (.slice ao2 ak ac) ∧ wx.cell? ⟨P1, 3, none⟩ = some (.int .i64 ae)) ∧
          (wx.cell? ⟨P2, 0, none⟩ = some (.bool bb) ∧ wx.cell? ⟨P2, 1, none⟩ = some (.bool bn2) ∧ wx.cell? ⟨P2, 2, none⟩ = some (.slice bo2 bk bc) ∧ wx.cell? ⟨P2, 3, none⟩ = some (.int .i64 be)) ∧
          (wx.cell? ⟨P3, 0, none⟩ = some (.bool cb2) ∧ wx.cell? ⟨P3, 1, none⟩ = some (.bool cn) ∧ wx.cell? ⟨P3, 2, none⟩ = some (.slice co ck cc) ∧ wx.cell? ⟨P3, 3, none⟩ = some (.int .i64 ce)) := fun wx h =>
        ⟨⟨(hvx.ext h).c0, (hvx.ext h).c1, (hvx.ext h).c2, (hvx.ext h).c3⟩, ⟨(hvy.ext h).c0, (hvy.ext h).c1, (hvy.ext h).c2, (hvy.ext h).c3⟩, ⟨(hvw.ext h).c0, (hvw.ext h).c1, (hvw.ext h).c2, (hvw.ext h).c3⟩⟩
      have HC := Lib.hid HC
      clear hvx hvy hvw
      obtain ⟨⟨k0, k1, k2, k3⟩, ⟨l0, l1, l2, l3⟩, ⟨m0, m1, m2, m3⟩⟩ := HC.out V3 (Ext.refl _)
      have hex : Ext V3 V3.drew := (Below.refl _ _).drew
      have HE := Lib.hid hE
      have HEV := Lib.hid (fun wx (h : Ext V3 wx) => Ext.trans HE.out h)
      clear hE
      have st0 : DSt V3 V3.drew [⟨.agg #[.bool ab, .bool an, .slice ao2 ak ac, .int .i64 ae], r, true⟩, ⟨.agg #[.bool bb, .bool bn2, .slice bo2 bk bc, .int .i64 be], d1, true⟩, ⟨.agg #[.bool cb2, .bool cn, .slice co ck cc, .int .i64 ce], s, true⟩] := by
        refine ⟨hex, (HTT.out _ HE.out).below hex, fun p hp => ?_⟩
        simp only [List.mem_cons, List.not_mem_nil, or_false] at hp
        rcases hp with rfl | rfl | rfl
        · exact dok_dn (hv1.ext hex)
        · exact dok_dn (hv2.ext hex)
        · exact dok_dn (hv3.ext hex)
      clear hv1 hv2 hv3
      go_region_held3 (fun wx => (wx.cell? ⟨P1, 0, none⟩ = some (.bool ab) ∧ wx.cell? ⟨P1, 1, none⟩ = some (.bool an) ∧ wx.cell? ⟨P1, 2, none⟩ = some (.slice ao2 ak ac) ∧ wx.cell? ⟨P1, 3, none⟩ = some (.int .i64 ae)) ∧
          (wx.cell? ⟨P2, 0, none⟩ = some (.bool bb) ∧ wx.cell? ⟨P2, 1, none⟩ = some (.bool bn2) ∧ wx.cell? ⟨P2, 2, none⟩ = some (.slice bo2 bk bc) ∧ wx.cell? ⟨P2, 3, none⟩ = some (.int .i64 be)) ∧
          (wx.cell? ⟨P3, 0, none⟩ = some (.bool cb2) ∧ wx.cell? ⟨P3, 1, none⟩ = some (.bool cn) ∧ wx.cell? ⟨P3, 2, none⟩ = some (.slice co ck cc) ∧ wx.cell? ⟨P3, 3, none⟩ = some (.int .i64 ce)))
        (first | exact HC.out _ (by first | assumption | exact DSt.ext (by assumption)))
        (first
          | (go_at_call 14; refine (dadd_bag (by assumption) (by repeat (first | exact List.Mem.head _ | refine List.Mem.tail _ ?_)) (by repeat (first | exact List.Mem.head _ | refine List.Mem.tail _ ?_))).mono ?_; rintro e wa ⟨ra, rfl, sta⟩; rw [HSUM.out] at sta)
          | (go_at_call 15; refine (CB.out _ (by exact HEV.out _ (DSt.ext (by assumption)))).mono ?_; rintro e wb ⟨rb, rfl, hrb, hwb⟩; have stb := DSt.push (by assumption) hwb (dok_dn hrb))
          | (go_at_call 30; refine (dneg_bag (by assumption) (by repeat (first | exact List.Mem.head _ | refine List.Mem.tail _ ?_))).mono ?_; rintro e wd ⟨rd, rfl, std⟩; rw [← HNEG.out] at std)
          | (go_at_call 13; refine (dkit_bag (by assumption) (by repeat (first | exact List.Mem.head _ | refine List.Mem.tail _ ?_)) (by repeat (first | exact List.Mem.head _ | refine List.Mem.tail _ ?_)) rfl).mono ?_; rintro e wk ⟨rfl, stk⟩)
          | (go_at_call 9; refine (AW.out _ (by exact HEV.out _ (DSt.ext (by assumption)))).mono ?_; rintro e wz ⟨rfl, hwz⟩; have hzz := Ext.trans (DSt.ext (by assumption)) hwz))
      go_wp2
      go_ret
      exact ⟨rfl, HEV.out _ hzz⟩

set_option maxRecDepth 100000 in
set_option maxHeartbeats 16000000 in
theorem aresl_any (b : Nat) (hb : b < 18446744073709551616) (ao bo : Option Addr) (n cap m cb : Nat) (w : World) (hr0 : n ≤ 1000000 → ∃ l, Fs w ao n cap l) (hr1 : m ≤ 1000000 → ∃ l, Fs w bo m cb l) (hT : Table w) (hT6 : Table64 w) :
    Calls Tryz.prog 6 #[.int .u64 (b : Int), .slice ao n cap, .slice bo m cb] w fun e w' => e = .returned (.bool true) ∧ Ext w w' := by
  have AW := Lib.hid (fun W (hE : Ext w W) => aawake_any W (hT.below hE) (hT6.below hE))
  by_cases hn : n ≤ 10
  · by_cases hnm : n = m
    · subst hnm
      obtain ⟨x, hx⟩ := hr0 (by omega)
      obtain ⟨y, hy⟩ := hr1 (by omega)
      clear hr0 hr1
      cases fx : x.all finB with
      | false =>
        have FX := Lib.hid (refFinite_any _ _ _ _ w hx (by omega) false fx)
        clear fx
        go_enter Tryz.func6, Tryz.ntmps6
        go_wp2_with fail
        refine FX.out.mono ?_
        rintro e w1 ⟨rfl, rfl⟩
        go_wp2_with fail
        refine (AW.out _ (Ext.refl _)).mono ?_
        rintro e w9 ⟨rfl, h9⟩
        go_wp2
        go_ret
        exact ⟨rfl, h9⟩
      | true =>
        have FX := Lib.hid (refFinite_any _ _ _ _ w hx (by omega) true fx)
        cases fy : y.all finB with
        | false =>
          have FY := Lib.hid (refFinite_any _ _ _ _ w hy (by omega) false fy)
          clear fx fy
          go_enter Tryz.func6, Tryz.ntmps6
          go_wp2_with fail
          refine FX.out.mono ?_
          rintro e w1 ⟨rfl, rfl⟩
          go_wp2_with fail
          refine FY.out.mono ?_
          rintro e w1 ⟨rfl, rfl⟩
          go_wp2_with fail
          refine (AW.out _ (Ext.refl _)).mono ?_
          rintro e w9 ⟨rfl, h9⟩
          go_wp2
          go_ret
          exact ⟨rfl, h9⟩
        | true =>
          have FY := Lib.hid (refFinite_any _ _ _ _ w hy (by omega) true fy)
          cases fb : finB b with
          | false =>
            have FB := Lib.hid (refFin_any b hb false fb w)
            clear fx fy fb
            go_enter Tryz.func6, Tryz.ntmps6
            go_wp2_with fail
            refine FX.out.mono ?_
            rintro e w1 ⟨rfl, rfl⟩
            go_wp2_with fail
            refine FY.out.mono ?_
            rintro e w1 ⟨rfl, rfl⟩
            go_wp2_with fail
            refine FB.out.mono ?_
            rintro e w1 ⟨rfl, rfl⟩
            go_wp2_with fail
            refine (AW.out _ (Ext.refl _)).mono ?_
            rintro e w9 ⟨rfl, h9⟩
            go_wp2
            go_ret
            exact ⟨rfl, h9⟩
          | true =>
            have FB := Lib.hid (refFin_any b hb true fb w)
            have hx9 : ∀ f ∈ x, finB f = true ∧ f < 18446744073709551616 := fun f hf => ⟨all_fin fx f hf, hx.lt f hf⟩
            obtain ⟨d1, d2, r, s, I⟩ := res_is fb hb hx9 (all_fin fy) (by rw [hx.len]; omega)
            clear fx fy fb
            exact aresl_walk b hb ao bo n cap cb x y d1 d2 r s w hx hy hT hT6 hn (fun f hf => (hx9 f hf).2) I FX.out FY.out FB.out AW.out
    · have hne : ((n : Int) != (m : Int)) = true := by simp; omega
      clear hnm hr0 hr1
      go_enter Tryz.func6, Tryz.ntmps6
      go_wp2_with fail
      refine (AW.out _ (Ext.refl _)).mono ?_
      rintro e w9 ⟨rfl, h9⟩
      go_wp2
      go_ret
      exact ⟨rfl, h9⟩
  · clear hr0 hr1
    go_enter Tryz.func6, Tryz.ntmps6
    go_wp2_with fail
    refine (AW.out _ (Ext.refl _)).mono ?_
    rintro e w9 ⟨rfl, h9⟩
    go_wp2
    go_ret
    exact ⟨rfl, h9⟩

theorem aresl_int (b : Int) (b0 : 0 ≤ b) (b1 : b < 18446744073709551616) (ao bo : Option Addr) (n cap m cb : Nat) (w : World) (hr0 : n ≤ 1000000 → ∃ l, Fs w ao n cap l) (hr1 : m ≤ 1000000 → ∃ l, Fs w bo m cb l) (hT : Table w) (hT6 : Table64 w) :
    Calls Tryz.prog 6 #[.int .u64 b, .slice ao n cap, .slice bo m cb] w fun e w' => e = .returned (.bool true) ∧ Ext w w' := by
  obtain ⟨x, rfl⟩ := Int.eq_ofNat_of_zero_le b0
  exact aresl_any x (by omega) ao bo n cap m cb w hr0 hr1 hT hT6
end Go.Proofs.YthlnapbjonlncaaGreatDoor
