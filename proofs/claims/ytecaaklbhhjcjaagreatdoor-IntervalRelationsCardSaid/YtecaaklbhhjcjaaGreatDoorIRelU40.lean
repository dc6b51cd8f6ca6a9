import Derived.Test.YtecaaklbhhjcjaaGreatDoorIRelU34
import Derived.Test.YtecaaklbhhjcjaaGreatDoorIRelU18
import Derived.Test.YtecaaklbhhjcjaaGreatDoorIRelU32
import Derived.Test.YtecaaklbhhjcjaaGreatDoorIRelU12
import Derived.Test.YtecaaklbhhjcjaaGreatDoorIRelU13
import Derived.Test.YtecaaklbhhjcjaaGreatDoorIRelU19
import Derived.Test.YtecaaklbhhjcjaaGreatDoorIRelU37
import Derived.Test.YtecaaklbhhjcjaaGreatDoorIRelU38
import Derived.Test.YtecaaklbhhjcjaaGreatDoorIRelU23
import Derived.Test.YtecaaklbhhjcjaaGreatDoorIRelU15
import Derived.Test.YtecaaklbhhjcjaaGreatDoorIRelU22
import Derived.Test.YtecaaklbhhjcjaaGreatDoorIRelU25
import Derived.Test.YtecaaklbhhjcjaaGreatDoorIRelU27
import Derived.Test.YtecaaklbhhjcjaaGreatDoorIRelU30
import Derived.Test.YtecaaklbhhjcjaaGreatDoorIRelU39
namespace Go.Proofs.YtecaaklbhhjcjaaGreatDoor
open Go Go.RowKit

/-- is the rest of d behind f the number of a float -/
def rest (f : Nat) (d : Dy) : Nat := frdF (dsub d (fdy f)) 0
end Go.Proofs.YtecaaklbhhjcjaaGreatDoor

namespace Go.Proofs.YtecaaklbhhjcjaaGreatDoor

/-- these dyads have the sum N in units of 2^-S -/
inductive IsL (S : Nat) : List Dy → Int → Prop
  | nil : IsL S [] 0
  | cons {d : Dy} {l : List Dy} {N M : Int} (h : Is d S N) (t : IsL S l M) : IsL S (d :: l) (N + M)

theorem IsL.some {S : Nat} {l : List Dy} {N : Int} (h : IsL S l N) : none ∉ l := by
  induction h with
  | nil => simp
  | cons h _ ih =>
    intro hm
    rcases List.mem_cons.1 hm with e | hm
    · obtain ⟨m, x, h1, _⟩ := h
      rw [← e] at h1; cases h1
    · exact ih hm

end Go.Proofs.YtecaaklbhhjcjaaGreatDoor

namespace Go.Proofs.YtecaaklbhhjcjaaGreatDoor
open Go Go.RowKit

theorem rdcmp_at {u v : Value} {d d' : Dy} {w : World} (hu : Dl w u d) (hv : Dl w v d') (hT : Table w) {c : Int} {ok : Bool} (h : DcmpIs d d' c ok) :
    Calls Tryz.prog 112 #[u, v] w fun e w' => e = .returned (.tuple #[.int .i64 c, .bool ok]) ∧ Ext w w' :=
  (refDCmp_any u v d d' w hu hv hT).mono fun e w' ⟨he, hw⟩ => by
    refine ⟨?_, hw⟩
    rcases h with ⟨h0, rfl, rfl⟩ | ⟨h1, h2, rfl, rfl⟩
    · rcases he with ⟨_, he⟩ | ⟨h3, h4, _⟩
      · exact he
      · rcases h0 with h0 | h0
        · exact absurd h0 h3
        · exact absurd h0 h4
    · rcases he with ⟨h0, _⟩ | ⟨_, _, he⟩
      · rcases h0 with h0 | h0
        · exact absurd h0 h1
        · exact absurd h0 h2
      · exact he
end Go.Proofs.YtecaaklbhhjcjaaGreatDoor

namespace Go.Proofs.YtecaaklbhhjcjaaGreatDoor
open Go.RowKit

set_option maxRecDepth 100000 in
set_option maxHeartbeats 40000000 in
theorem refRad_yes (a b : Nat) (g0 : Good a b) (w : World) (hT : Table w) :
    Calls Tryz.prog 48 #[.agg #[.int .u64 (a : Int), .int .u64 (b : Int)]] w fun e w' => e = .returned (.int .u64 ((radF a b : Nat) : Int)) ∧ Ext w w' := by
  have C1 := Lib.hid (fun w => refValid_any a b g0.l1 g0.l2 true g0.valid w)
  obtain ⟨Q, hQ⟩ : ∃ Q : Int, ((radF a b : Nat) : Int) = Q := ⟨_, rfl⟩
  rw [hQ]
  have aI : ((a : Int) == 18442240474082181120) = decide (a = 18442240474082181120) := by
    by_cases h : a = 18442240474082181120
    · rw [decide_eq_true h, h]; rfl
    · rw [decide_eq_false h, beq_eq_false_iff_ne]; omega
  have bI : ((b : Int) == 9218868437227405312) = decide (b = 9218868437227405312) := by
    by_cases h : b = 9218868437227405312
    · rw [decide_eq_true h, h]; rfl
    · rw [decide_eq_false h, beq_eq_false_iff_ne]; omega
  by_cases hA : a = 18442240474082181120
  · have a2 : ((a : Int) == 18442240474082181120) = true := by rw [aI, decide_eq_true hA]
    obtain rfl : (9218868437227405312 : Int) = Q := by rw [← hQ, rad_inf g0 (Or.inl hA)]; rfl
    clear hA aI bI hQ g0 hT
    go_enter Tryz.func48, Tryz.ntmps48
    go_upto_region 1 with fail
    obtain ⟨W, hW, hB, hx, hsz⟩ := ibox_new w a b
    rw [← hW]
    clear hW
    have HB := Lib.hid hB
    generalize w.heap.size = B at hx ⊢
    clear hB hsz
    have HC := Lib.hid (show ∀ wx, Ext W wx → wx.cell? ⟨B, 0, none⟩ = some (.int .u64 (a : Int)) ∧ wx.cell? ⟨B, 1, none⟩ = some (.int .u64 (b : Int)) from fun wx h => ⟨(hx.below h).c0, (hx.below h).c1⟩)
    clear hx
    have st : Ext W W := Ext.refl _
    obtain ⟨a0, a1⟩ := HC.out _ st
    go_wp2_with fail
    refine (C1.out _).mono ?_
    rintro r w1 ⟨rfl, hE⟩
    have st : Ext W w1 := Ext.trans st hE
    clear hE a0 a1
    obtain ⟨a0, a1⟩ := HC.out _ st
    have HF := Lib.hid (HB.out.trans st)
    go_wp2
    go_ret
    exact ⟨rfl, HF.out⟩
  · have a2 : ((a : Int) == 18442240474082181120) = false := by rw [aI, decide_eq_false hA]
    by_cases hD : b = 9218868437227405312
    · have b2 : ((b : Int) == 9218868437227405312) = true := by rw [bI, decide_eq_true hD]
      obtain rfl : (9218868437227405312 : Int) = Q := by rw [← hQ, rad_inf g0 (Or.inr hD)]; rfl
      clear hA hD aI bI hQ g0 hT
      go_enter Tryz.func48, Tryz.ntmps48
      go_upto_region 1 with fail
      obtain ⟨W, hW, hB, hx, hsz⟩ := ibox_new w a b
      rw [← hW]
      clear hW
      have HB := Lib.hid hB
      generalize w.heap.size = B at hx ⊢
      clear hB hsz
      have HC := Lib.hid (show ∀ wx, Ext W wx → wx.cell? ⟨B, 0, none⟩ = some (.int .u64 (a : Int)) ∧ wx.cell? ⟨B, 1, none⟩ = some (.int .u64 (b : Int)) from fun wx h => ⟨(hx.below h).c0, (hx.below h).c1⟩)
      clear hx
      have st : Ext W W := Ext.refl _
      obtain ⟨a0, a1⟩ := HC.out _ st
      go_wp2_with fail
      refine (C1.out _).mono ?_
      rintro r w1 ⟨rfl, hE⟩
      have st : Ext W w1 := Ext.trans st hE
      clear hE a0 a1
      obtain ⟨a0, a1⟩ := HC.out _ st
      have HF := Lib.hid (HB.out.trans st)
      go_wp2
      go_ret
      exact ⟨rfl, HF.out⟩
    · have b2 : ((b : Int) == 9218868437227405312) = false := by rw [bI, decide_eq_false hD]
      obtain ⟨rb, ne1, ne2⟩ := rad_B g0 hA hD
      have CM := Lib.hid (fun wx (h : Ext w wx) => refMid_yes a b g0 wx (hT.below h))
      have lm := (mid_in g0).l
      have O1 := Lib.hid (fun wx hT => refOf_any a g0.l1 wx hT)
      have O2 := Lib.hid (fun wx hT => refOf_any b g0.l2 wx hT)
      generalize midF a b = mid at *
      have O3 := Lib.hid (fun wx hT => refOf_any mid lm wx hT)
      obtain ⟨dm0, hdm⟩ : ∃ x, fdy mid = x := ⟨_, rfl⟩
      obtain ⟨da, hda⟩ : ∃ x, fdy a = x := ⟨_, rfl⟩
      obtain ⟨db, hdb⟩ : ∃ x, fdy b = x := ⟨_, rfl⟩
      rw [hdm] at O3 rb ne1 ne2
      rw [hda] at O1 rb ne1
      rw [hdb] at O2 rb ne2
      obtain ⟨d1, hd1⟩ : ∃ x, dsub dm0 da = x := ⟨_, rfl⟩
      obtain ⟨d2, hd2⟩ : ∃ x, dsub db dm0 = x := ⟨_, rfl⟩
      rw [hd1] at rb ne1
      rw [hd2] at rb ne2
      obtain ⟨c, hc⟩ : ∃ x, sgn3 (sc d1) (sc d2) = x := ⟨_, rfl⟩
      have DC := Lib.hid (show DcmpIs d1 d2 c true from Or.inr ⟨ne1, ne2, hc.symm, rfl⟩)
      rw [hc] at rb
      have HQ1 := Lib.hid (show c < 0 → ((plainF (frdF d2 2) : Nat) : Int) = Q from fun h => by rw [← hQ, rb, if_pos h])
      have HQ2 := Lib.hid (show ¬ c < 0 → ((plainF (frdF d1 2) : Nat) : Int) = Q from fun h => by rw [← hQ, rb, if_neg h])
      have HD1 := Lib.hid hd1
      have HD2 := Lib.hid hd2
      have HT := Lib.hid hT
      clear rb ne1 ne2 hc hd1 hd2 hdm hda hdb lm hA hD aI bI hQ g0 hT
      go_enter Tryz.func48, Tryz.ntmps48
      go_upto_region 1 with fail
      obtain ⟨W, hW, hB, hx, hsz⟩ := ibox_new w a b
      rw [← hW]
      clear hW
      have HB := Lib.hid hB
      generalize w.heap.size = B at hx ⊢
      clear hB hsz
      have HC := Lib.hid (show ∀ wx, Ext W wx → wx.cell? ⟨B, 0, none⟩ = some (.int .u64 (a : Int)) ∧ wx.cell? ⟨B, 1, none⟩ = some (.int .u64 (b : Int)) from fun wx h => ⟨(hx.below h).c0, (hx.below h).c1⟩)
      clear hx
      have st : Ext W W := Ext.refl _
      obtain ⟨a0, a1⟩ := HC.out _ st
      go_wp2_with fail
      refine (C1.out _).mono ?_
      rintro r w1 ⟨rfl, hE⟩
      have st : Ext W w1 := Ext.trans st hE
      clear hE a0 a1
      obtain ⟨a0, a1⟩ := HC.out _ st
      go_wp2_with fail
      refine (CM.out _ (Ext.trans HB.out st)).mono ?_
      rintro r w2 ⟨rfl, hE⟩
      have st : Ext W w2 := Ext.trans st hE
      clear hE a0 a1
      go_wp2_with fail
      refine (O3.out _ (HT.out.below (Ext.trans HB.out st))).mono ?_
      rintro r w3 ⟨vm, rfl, hm, hE⟩
      have st : Ext W w3 := Ext.trans st hE
      clear hE
      obtain ⟨a0, a1⟩ := HC.out _ st
      obtain ⟨mb, mn, mo, mk, mc, mf, rfl⟩ := hm.parts
      go_upto_region 6 with fail
      obtain ⟨V, hV, hE, bm, hsz⟩ := dbox_new w3 mb mn mo mk mc mf
      rw [← hV]
      clear hV hsz a0 a1
      have hE : Ext w3 V := hE
      have HM := Lib.hid (fun wx (h : Ext V wx) => (hm.ext (Ext.trans hE h)).dl)
      have HWV := Lib.hid (Ext.trans st hE)
      have HVW := Lib.hid (Ext.trans HB.out HWV.out)
      have HTV := Lib.hid (fun wx (h : Ext V wx) => HT.out.below (Ext.trans HVW.out h))
      generalize w3.heap.size = D at *
      have HC6 := Lib.hid (show ∀ wx, Ext V wx → (wx.cell? ⟨B, 0, none⟩ = some (.int .u64 (a : Int)) ∧ wx.cell? ⟨B, 1, none⟩ = some (.int .u64 (b : Int))) ∧ (wx.cell? ⟨D, 0, none⟩ = some (.bool mb) ∧ wx.cell? ⟨D, 1, none⟩ = some (.bool mn) ∧ wx.cell? ⟨D, 2, none⟩ = some (.slice mo mk mc) ∧ wx.cell? ⟨D, 3, none⟩ = some (.int .i64 mf)) from fun wx h => ⟨HC.out wx (Ext.trans HWV.out h), (bm.ext h).c0, (bm.ext h).c1, (bm.ext h).c2, (bm.ext h).c3⟩)
      clear bm hm hE st
      obtain ⟨⟨a0, a1⟩, m0, m1, m2, m3⟩ := HC6.out V (Ext.refl _)
      have st : Ext V V.drew := (Below.refl _ _).drew
      go_cut [4, 5] from 24 (fun p q wx => ∃ g h ub un uo uk uc uf vb vn vo vk vc vf, p = .pointer (some ⟨g, 0, none⟩) ∧ q = .pointer (some ⟨h, 0, none⟩) ∧ DBox wx g ub un uo uk uc uf ∧ DBox wx h vb vn vo vk vc vf ∧ Dn wx (.agg #[.bool ub, .bool un, .slice uo uk uc, .int .i64 uf]) d1 ∧ Dn wx (.agg #[.bool vb, .bool vn, .slice vo vk vc, .int .i64 vf]) d2 ∧ Ext V wx ∧ g ≠ h ∧ V.heap.size ≤ g ∧ V.heap.size ≤ h)
      case first =>
        go_region_held3 (fun wx => (wx.cell? ⟨B, 0, none⟩ = some (.int .u64 (a : Int)) ∧ wx.cell? ⟨B, 1, none⟩ = some (.int .u64 (b : Int))) ∧ (wx.cell? ⟨D, 0, none⟩ = some (.bool mb) ∧ wx.cell? ⟨D, 1, none⟩ = some (.bool mn) ∧ wx.cell? ⟨D, 2, none⟩ = some (.slice mo mk mc) ∧ wx.cell? ⟨D, 3, none⟩ = some (.int .i64 mf)))
          (first | (refine HC6.out _ ?_; (repeat (first | with_reducible refine eA ?_ _ | with_reducible refine eS4 (by omega) ?_)); (first | with_reducible assumption | with_reducible exact eAd _ _ | with_reducible exact eAAd _ _ _ | with_reducible exact Ext.refl _)) | fail "keep")
          (first
            | (go_at_call 109; (with_reducible refine (O1.out _ (HTV.out _ (by first | with_reducible assumption | with_reducible exact eA (by with_reducible assumption) _ | with_reducible exact eAd _ _ | with_reducible exact eAAd _ _ _ | with_reducible exact eA (eA (by with_reducible assumption) _) _))).mono ?_); rintro r w1 ⟨e1, rfl, i1, hE1⟩; have st1 : Ext V w1 := Ext.trans (by first | with_reducible assumption | with_reducible exact eA (by with_reducible assumption) _ | with_reducible exact eAd _ _ | with_reducible exact eAAd _ _ _ | with_reducible exact eA (eA (by with_reducible assumption) _) _) hE1; (have hX : Ext V w1 := Ext.trans (by first | with_reducible assumption | with_reducible exact eA (by with_reducible assumption) _ | with_reducible exact eAd _ _ | with_reducible exact eAAd _ _ _ | with_reducible exact eA (eA (by with_reducible assumption) _) _) hE1); (first | (have n12 := din2d (w := V) (wn := w1) (by with_reducible exact hE1); have y1 := n12.1; have y2 := n12.2; clear n12) | (have _t := y1; have n12 := din1d (w := V) (wn := w1) (by with_reducible exact hE1); have y2 := n12; clear n12) | (have n12 := din1d (w := V) (wn := w1) (by with_reducible exact hE1); have y1 := n12; clear n12) | skip); (first | (have ya1 := y1.lt) | skip); clear hX)
            | (go_at_call 111; (with_reducible refine (ref_dsub_any (.agg #[.bool mb, .bool mn, .slice mo mk mc, .int .i64 mf]) e1 dm0 da _ (HM.out _ (by first | with_reducible assumption | with_reducible exact eA (by with_reducible assumption) _ | with_reducible exact eAd _ _ | with_reducible exact eAAd _ _ _ | with_reducible exact eA (eA (by with_reducible assumption) _) _)) (by first | exact i1.dl | exact (i1.ext (ext_of_alloc _ _)).dl | exact ((i1.ext (ext_of_alloc _ _)).ext (ext_of_alloc _ _)).dl) (HTV.out _ (by first | with_reducible assumption | with_reducible exact eA (by with_reducible assumption) _ | with_reducible exact eAd _ _ | with_reducible exact eAAd _ _ _ | with_reducible exact eA (eA (by with_reducible assumption) _) _))).mono ?_); rintro r w2 ⟨e2, rfl, i2, hE2⟩; have st2 : Ext V w2 := Ext.trans (by first | with_reducible assumption | with_reducible exact eA (by with_reducible assumption) _ | with_reducible exact eAd _ _ | with_reducible exact eAAd _ _ _ | with_reducible exact eA (eA (by with_reducible assumption) _) _) hE2; (first | (have hX : Ext w1 w2 := by with_reducible exact hE2) | (have hX : Ext w1 w2 := Ext.trans (ext_of_alloc _ _) (by with_reducible exact hE2)) | (have hX : Ext w1 w2 := Ext.trans (Ext.trans (ext_of_alloc _ _) (ext_of_alloc _ _)) (by with_reducible exact hE2))); (first | (have y2 := y2.ext hX) | skip); (first | (have y1 := y1.ext hX) | skip); (first | (have n12 := din2 (w := w1) (wn := w2) (by with_reducible exact hE2); have y1 := n12.1; have y2 := n12.2; clear n12) | (have _t := y1; have n12 := din1 (w := w1) (wn := w2) (by with_reducible exact hE2); have y2 := n12; clear n12) | (have n12 := din1 (w := w1) (wn := w2) (by with_reducible exact hE2); have y1 := n12; clear n12) | skip); (first | (have ya2 := y1.lt) | skip); clear hX; rw [HD1.out] at i2; obtain ⟨ub, un, uo, uk, uc, uf, rfl⟩ := i2.parts)
            | (go_at_call 109; (with_reducible refine (O2.out _ (HTV.out _ (by first | with_reducible assumption | with_reducible exact eA (by with_reducible assumption) _ | with_reducible exact eAd _ _ | with_reducible exact eAAd _ _ _ | with_reducible exact eA (eA (by with_reducible assumption) _) _))).mono ?_); rintro r w3 ⟨e3, rfl, i3, hE3⟩; have st3 : Ext V w3 := Ext.trans (by first | with_reducible assumption | with_reducible exact eA (by with_reducible assumption) _ | with_reducible exact eAd _ _ | with_reducible exact eAAd _ _ _ | with_reducible exact eA (eA (by with_reducible assumption) _) _) hE3; (first | (have hX : Ext w2 w3 := by with_reducible exact hE3) | (have hX : Ext w2 w3 := Ext.trans (ext_of_alloc _ _) (by with_reducible exact hE3)) | (have hX : Ext w2 w3 := Ext.trans (Ext.trans (ext_of_alloc _ _) (ext_of_alloc _ _)) (by with_reducible exact hE3))); (first | (have y2 := y2.ext hX) | skip); (first | (have y1 := y1.ext hX) | skip); (first | (have n12 := din2 (w := w2) (wn := w3) (by with_reducible exact hE3); have y1 := n12.1; have y2 := n12.2; clear n12) | (have _t := y1; have n12 := din1 (w := w2) (wn := w3) (by with_reducible exact hE3); have y2 := n12; clear n12) | (have n12 := din1 (w := w2) (wn := w3) (by with_reducible exact hE3); have y1 := n12; clear n12) | skip); (first | (have ya3 := y1.lt) | skip); have i2 := i2.ext hX; clear hX)
            | (go_at_call 111; (with_reducible refine (ref_dsub_any e3 (.agg #[.bool mb, .bool mn, .slice mo mk mc, .int .i64 mf]) db dm0 _ (by first | exact i3.dl | exact (i3.ext (ext_of_alloc _ _)).dl | exact ((i3.ext (ext_of_alloc _ _)).ext (ext_of_alloc _ _)).dl) (HM.out _ (by first | with_reducible assumption | with_reducible exact eA (by with_reducible assumption) _ | with_reducible exact eAd _ _ | with_reducible exact eAAd _ _ _ | with_reducible exact eA (eA (by with_reducible assumption) _) _)) (HTV.out _ (by first | with_reducible assumption | with_reducible exact eA (by with_reducible assumption) _ | with_reducible exact eAd _ _ | with_reducible exact eAAd _ _ _ | with_reducible exact eA (eA (by with_reducible assumption) _) _))).mono ?_); rintro r w4 ⟨e4, rfl, i4, hE4⟩; have st4 : Ext V w4 := Ext.trans (by first | with_reducible assumption | with_reducible exact eA (by with_reducible assumption) _ | with_reducible exact eAd _ _ | with_reducible exact eAAd _ _ _ | with_reducible exact eA (eA (by with_reducible assumption) _) _) hE4; (first | (have hX : Ext w3 w4 := by with_reducible exact hE4) | (have hX : Ext w3 w4 := Ext.trans (ext_of_alloc _ _) (by with_reducible exact hE4)) | (have hX : Ext w3 w4 := Ext.trans (Ext.trans (ext_of_alloc _ _) (ext_of_alloc _ _)) (by with_reducible exact hE4))); (first | (have y2 := y2.ext hX) | skip); (first | (have y1 := y1.ext hX) | skip); (first | (have n12 := din2 (w := w3) (wn := w4) (by with_reducible exact hE4); have y1 := n12.1; have y2 := n12.2; clear n12) | (have _t := y1; have n12 := din1 (w := w3) (wn := w4) (by with_reducible exact hE4); have y2 := n12; clear n12) | (have n12 := din1 (w := w3) (wn := w4) (by with_reducible exact hE4); have y1 := n12; clear n12) | skip); (first | (have ya4 := y1.lt) | skip); have i2 := i2.ext hX; clear hX; rw [HD2.out] at i4; obtain ⟨vb, vn, vo, vk, vc, vf, rfl⟩ := i4.parts; have sz1 := Below.size st1; have sz2 := Below.size st2; have sz3 := Below.size st3; have sz4 := Below.size st4; (first | (have yl1 := y1.lt; have s0 := y1.c0; have s1 := y1.c1; have s2 := y1.c2; have s3 := y1.c3; have s4 := y1.f 0; have s5 := y1.f 1; have s6 := y1.f 2; have s7 := y1.f 3) | skip); (first | (have yl2 := y2.lt; have t0 := y2.c0; have t1 := y2.c1; have t2 := y2.c2; have t3 := y2.c3; have t4 := y2.f 0; have t5 := y2.f 1; have t6 := y2.f 2; have t7 := y2.f 3) | skip)))
        all_goals
          try clear s0 s1 s2 s3 s4 s5 s6 s7
          try clear t0 t1 t2 t3 t4 t5 t6 t7
          go_wp2
          go_meet
        all_goals
          refine ⟨_, _, ub, un, uo, uk, uc, uf, vb, vn, vo, vk, vc, vf, rfl, rfl, ?_⟩
          first
            | (have _t := y2; first | (have F := dp_both y1 y2 (by omega) i2 i4 st4 (by omega) (by omega); with_reducible exact F) | (have F := dp_both y2 y1 (by omega) i2 i4 st4 (by omega) (by omega); with_reducible exact F))
            | (have _t := y1; first | (have F := dp_mix y1 i2 i4 st4 (by omega); with_reducible exact F) | (have F := dp_mix y1 i4 i2 st4 (by omega); with_reducible exact ⟨F.2.1, F.1, F.2.2.2.1, F.2.2.1, F.2.2.2.2.1, F.2.2.2.2.2.1.symm, F.2.2.2.2.2.2.2, F.2.2.2.2.2.2.1⟩))
            | (have F := dp_new i2 i4 st4; with_reducible exact F)
            | (have F := dp_new i4 i2 st4; with_reducible exact ⟨F.2.1, F.1, F.2.2.2.1, F.2.2.1, F.2.2.2.2.1, F.2.2.2.2.2.1.symm, F.2.2.2.2.2.2.2, F.2.2.2.2.2.2.1⟩)
      case rest =>
        obtain ⟨g, h, ub, un, uo, uk, uc, uf, vb, vn, vo, vk, vc, vf, rfl, rfl, bg, bh, hu, hv, hE, hne, hVg, hVh⟩ := hcut
        clear a0 a1 m0 m1 m2 m3 st
        have x0 := bg.c0
        have x1 := bg.c1
        have x2 := bg.c2
        have x3 := bg.c3
        have y0 := bh.c0
        have y1 := bh.c1
        have y2 := bh.c2
        have y3 := bh.c3
        go_wp2_with fail
        refine (rdcmp_at hu.dl hv.dl (HTV.out _ hE) DC.out).mono ?_
        rintro r w7 ⟨rfl, hE7⟩
        have bg := bg.ext hE7
        have bh := bh.ext hE7
        have hu := hu.ext hE7
        have hv := hv.ext hE7
        have hE := Ext.trans hE hE7
        clear hE7 x0 x1 x2 x3 y0 y1 y2 y3
        have x0 := bg.c0
        have x1 := bg.c1
        have x2 := bg.c2
        have x3 := bg.c3
        have y0 := bh.c0
        have y1 := bh.c1
        have y2 := bh.c2
        have y3 := bh.c3
        by_cases hc : c < 0
        · have HQ := Lib.hid (HQ1.out hc)
          clear HQ1 HQ2
          have f0 := bg.f 0
          have f1 := bg.f 1
          have f2 := bg.f 2
          have f3 := bg.f 3
          go_upto_region 10 with fail
          have N5 := dp_set (V := V) bg bh hne hv hv hE hVg
          obtain ⟨W9, hW9⟩ : ∃ W9 : World, ((((w7.setCell ⟨g, 0, none⟩ (.bool vb)).setCell ⟨g, 1, none⟩ (.bool vn)).setCell ⟨g, 2, none⟩ (.slice vo vk vc)).setCell ⟨g, 3, none⟩ (.int .i64 vf)) = W9 := ⟨_, rfl⟩
          rw [hW9] at N5 ⊢
          clear hW9 bg bh f0 f1 f2 f3 x0 x1 x2 x3 y0 y1 y2 y3 hu hv hE
          obtain ⟨bg, -, hv, -, hE⟩ := N5
          have x0 := bg.c0
          have x1 := bg.c1
          have x2 := bg.c2
          have x3 := bg.c3
          go_wp2_with fail
          refine (refRound_any _ _ 2 _ hv.dl (HTV.out _ hE)).mono ?_
          rintro r wa ⟨rfl, hEa⟩
          have HF := Lib.hid (Ext.trans HVW.out (Ext.trans hE hEa))
          clear x0 x1 x2 x3 bg hv hE hEa
          go_wp2_with fail
          refine (refPlus_any _ _).mono ?_
          rintro r wb ⟨rfl, rfl⟩
          go_wp2
          go_ret
          exact ⟨by rw [← HQ.out]; rfl, HF.out⟩
        · have HQ := Lib.hid (HQ2.out (by omega))
          clear HQ1 HQ2
          go_wp2_with fail
          refine (refRound_any _ _ 2 _ hu.dl (HTV.out _ hE)).mono ?_
          rintro r wa ⟨rfl, hEa⟩
          have HF := Lib.hid (Ext.trans HVW.out (Ext.trans hE hEa))
          clear x0 x1 x2 x3 y0 y1 y2 y3 bg bh hu hv hE hEa
          go_wp2_with fail
          refine (refPlus_any _ _).mono ?_
          rintro r wb ⟨rfl, rfl⟩
          go_wp2
          go_ret
          exact ⟨by rw [← HQ.out]; rfl, HF.out⟩
end Go.Proofs.YtecaaklbhhjcjaaGreatDoor
