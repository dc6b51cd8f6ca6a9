/- What the reference's Contains of intervals does. -/
import Derived.Test.YtjohpdobnedilaaDoorGw
namespace Go.Proofs.YtjohpdobnedilaaDoor
open Go.RowKit

/-- is the number an element? -/
def contB (lo hi : Nat) (d : Dy) : Bool := validF lo hi && d.isSome && !lessN 0 d (numI lo) (numD lo) && !lessN (numI hi) (numD hi) 0 d

theorem fin_of {c : Nat} (hc : c < 18446744073709551616) (h1 : nanB c = false) (h2 : c ≠ 9218868437227405312) (h3 : c ≠ 18442240474082181120) : finB c = true := by
  have h := of_decide_eq_false h1
  unfold finB
  apply decide_eq_true
  unfold fmag at h ⊢
  omega
theorem sc_less {a b : Nat} (ha : finB a = true) (hb : finB b = true) : decide (sc (fdy a) < sc (fdy b)) = decide (frank a < frank b) := by
  have h := fdy_rank ha hb
  generalize sc (fdy a) = X at *
  generalize sc (fdy b) = Y at *
  generalize frank a = x at *
  generalize frank b = y at *
  apply decide_eq_decide.2
  unfold sgn3 at h
  split at h <;> split at h <;> first | (constructor <;> intro <;> assumption) | (split at h <;> first | omega | (split at h <;> omega)) | omega
theorem cont_zero {c d : Nat} (hc : c < 18446744073709551616) (hd : d < 18446744073709551616) (h : contB c d (some (0, 0)) = true) : containsF c d = true := by
  unfold contB at h
  simp only [Bool.and_eq_true, Bool.not_eq_true'] at h
  obtain ⟨⟨⟨hv, -⟩, h1⟩, h2⟩ := h
  unfold validF at hv
  simp only [Bool.and_eq_true, Bool.not_eq_true', decide_eq_true_eq] at hv
  obtain ⟨⟨⟨⟨n1, n2⟩, -⟩, e1⟩, e2⟩ := hv
  have z0 : fdy 0 = some (0, 0) := fdy_zero (by decide)
  have f0 : finB 0 = true := by decide
  have g1 : lessF 0 c = false := by
    by_cases hc1 : c = 18442240474082181120
    · subst hc1; decide
    · have hf := fin_of hc n1 e1 hc1
      have e3 : lessN 0 (some (0, 0)) (numI c) (numD c) = decide (frank 0 < frank c) := by
        unfold numI numD lessN
        rw [if_neg e1, if_neg hc1, if_neg e1, if_neg hc1, if_neg (by simp), ← sc_less f0 hf, z0]
        have := fdy_some hf
        cases hq : fdy c with
        | none => exact absurd hq this
        | some p => rfl
      unfold lessF
      rw [n1, show nanB 0 = false by decide, ← e3, h1]
      rfl
  have g2 : lessF d 0 = false := by
    by_cases hd1 : d = 9218868437227405312
    · subst hd1; decide
    · have hf := fin_of hd n2 hd1 e2
      have e3 : lessN (numI d) (numD d) 0 (some (0, 0)) = decide (frank d < frank 0) := by
        unfold numI numD lessN
        rw [if_neg hd1, if_neg e2, if_neg hd1, if_neg e2, if_neg (by simp), ← sc_less hf f0, z0]
        have := fdy_some hf
        cases hq : fdy d with
        | none => exact absurd hq this
        | some p => rfl
      unfold lessF
      rw [n2, show nanB 0 = false by decide, ← e3, h2]
      rfl
  unfold containsF
  rw [g1, g2]
  rfl

theorem box_id (w : World) (lo hi : Int) (bb nb : Bool) (ao : Option Addr) (n ca : Nat) (e : Int) :
    ∃ W, W = (w.alloc (.cells #[.int .u64 lo, .int .u64 hi] 25)).alloc (.cells #[.bool bb, .bool nb, .slice ao n ca, .int .i64 e] 43) ∧ Ext w W ∧ IBox W w.heap.size lo hi ∧ DBox W (w.heap.size + 1) bb nb ao n ca e := by
  refine ⟨_, rfl, ((Below.refl _ w).alloc (Nat.le_refl _) _).alloc (by simp) _, ?_, ?_⟩
  · exact (IBox.new w lo hi).below ((Below.refl _ _).alloc (Nat.le_refl _) _)
  · have := DBox.new (w.alloc (.cells #[.int .u64 lo, .int .u64 hi] 25)) bb nb ao n ca e
    simpa using this

set_option maxRecDepth 100000 in
set_option maxHeartbeats 16000000 in
theorem refContains_any (lo hi : Nat) (hl : lo < 18446744073709551616) (hh : hi < 18446744073709551616) (v : Value) (d : Dy) (b : Bool) (hb : contB lo hi d = b) (w : World) (hv : Dl w v d) (hT : Table w) :
    Calls Tryd.prog 22 #[.agg #[.int .u64 (lo : Int), .int .u64 (hi : Int)], v] w fun e w' => e = .returned (.bool b) ∧ Ext w w' := by
  obtain ⟨ub, un, uo, uk, uc, ux, uf, rfl, hrest⟩ := hv
  have hv : Dl w (.agg #[.bool ub, .bool un, .slice uo uk uc, .int .i64 uf]) d := ⟨ub, un, uo, uk, uc, ux, uf, rfl, hrest⟩
  clear hrest
  obtain ⟨p, hp⟩ : ∃ p, validF lo hi = p := ⟨_, rfl⟩
  obtain ⟨l1, hl1⟩ : ∃ l, lessN 0 d (numI lo) (numD lo) = l := ⟨_, rfl⟩
  obtain ⟨l2, hl2⟩ : ∃ l, lessN (numI hi) (numD hi) 0 d = l := ⟨_, rfl⟩
  unfold contB at hb
  rw [hp, hl1, hl2] at hb
  have CV := Lib.hid (refValid_any lo hi hl hh p hp)
  have CL := Lib.hid (fun w hT => refNumOf_any lo hl _ _ rfl rfl w hT)
  have CH := Lib.hid (fun w hT => refNumOf_any hi hh _ _ rfl rfl w hT)
  have HL1 := Lib.hid hl1
  have HL2 := Lib.hid hl2
  have HT := Lib.hid hT
  clear hp hl1 hl2 hT hl hh
  generalize numI lo = i1 at *
  generalize numD lo = d1 at *
  generalize numI hi = i2 at *
  generalize numD hi = d2 at *
  go_enter Tryd.func22, Tryd.ntmps22
  go_upto_region 1 with fail
  obtain ⟨W, hW, hB, hx, hy⟩ := box_id w lo hi ub un uo uk uc uf
  rw [← hW]
  clear hW
  have HB := Lib.hid hB
  have HT := Lib.hid (HT.out.below hB)
  have hv := hv.ext hB
  generalize w.heap.size = B at hx hy ⊢
  clear hB
  have y0 := hy.c0
  have y1 := hy.c1
  have y2 := hy.c2
  have y3 := hy.c3
  go_wp2_with fail
  refine (refDNorm_any _ d _ hv HT.out).mono ?_
  rintro e w1 ⟨r, rfl, hr, hw1⟩
  have hx := hx.below hw1
  have HB := Lib.hid (HB.out.trans hw1)
  have HT := Lib.hid (HT.out.below hw1)
  obtain ⟨rb, rn, ro, rk, rc, re, rfl⟩ := hr.parts
  clear hy y0 y1 y2 y3 hw1 hv
  go_upto_region 2 with fail
  obtain ⟨V, hV, hE, hn, hsz⟩ := nbx_new w1 0 rb rn ro rk rc re
  rw [← hV]
  clear hV
  have hx := hx.below hE
  have HB := Lib.hid (HB.out.trans hE)
  have HTV := Lib.hid (show ∀ wx, Ext V wx → Table wx from fun wx h => (HT.out.below hE).below h)
  have hr := hr.ext hE
  have HN := Lib.hid (show ∀ wx, Ext V wx → NumV wx (.agg #[.int .i64 0, .bool rb, .bool rn, .slice ro rk rc, .int .i64 re]) 0 d from fun wx h => ⟨_, _, _, _, _, _, rfl, hr.ext h⟩)
  generalize w1.heap.size = D at hn ⊢
  clear hE hsz HT
  have HC := Lib.hid (show ∀ wx, Ext V wx → (wx.cell? ⟨B, 0, none⟩ = some (.int .u64 (lo : Int)) ∧ wx.cell? ⟨B, 1, none⟩ = some (.int .u64 (hi : Int))) ∧ (wx.cell? ⟨D, 0, none⟩ = some (.int .i64 0) ∧ wx.cell? ⟨D, 1, none⟩ = some (.bool rb) ∧ wx.cell? ⟨D, 2, none⟩ = some (.bool rn) ∧ wx.cell? ⟨D, 3, none⟩ = some (.slice ro rk rc) ∧ wx.cell? ⟨D, 4, none⟩ = some (.int .i64 re)) from fun wx h => ⟨⟨(hx.below h).c0, (hx.below h).c1⟩, (hn.below h).c0, (hn.below h).c1, (hn.below h).c2, (hn.below h).c3, (hn.below h).c4⟩)
  obtain ⟨⟨a0, a1⟩, b0, b1, b2, b3, b4⟩ := HC.out V (Ext.refl _)
  have st : Ext V V.drew := (Below.refl _ _).drew
  have HR := Lib.hid hr
  clear hr hx hn
  cases p with
  | false =>
    have HBB := Lib.hid (show false = b by rw [← hb]; rfl)
    clear hb
    first | (go_region_with (first
        | (go_at_call 7; (with_reducible refine (CV.out _).mono ?_); rintro r wn ⟨rfl, hE⟩; have st : Ext V wn := Ext.trans (by assumption) hE; clear hE; obtain ⟨⟨a0, a1⟩, b0, b1, b2, b3, b4⟩ := HC.out wn st))) | fail "no walk"
    all_goals
      go_wp2
      go_ret
      exact ⟨ret_bool (by first | exact HBB.out | (rw [← HBB.out]; rfl) | simpa using HBB.out), Ext.trans HB.out (by assumption)⟩
  | true =>
    cases d with
    | none =>
      obtain rfl := dn_none HR.out
      have HBB := Lib.hid (show false = b by rw [← hb]; rfl)
      clear hb
      first | (go_region_with (first
          | (go_at_call 7; (with_reducible refine (CV.out _).mono ?_); rintro r wn ⟨rfl, hE⟩; have st : Ext V wn := Ext.trans (by assumption) hE; clear hE; obtain ⟨⟨a0, a1⟩, b0, b1, b2, b3, b4⟩ := HC.out wn st))) | fail "no walk"
      all_goals
        go_wp2
        go_ret
        exact ⟨ret_bool (by first | exact HBB.out | (rw [← HBB.out]; rfl) | simpa using HBB.out), Ext.trans HB.out (by assumption)⟩
    | some q =>
      obtain ⟨m, f⟩ := q
      obtain ⟨rfl, rfl, -⟩ := dn_some HR.out
      cases l1 with
      | true =>
        have HBB := Lib.hid (show false = b by rw [← hb]; rfl)
        clear hb
        first | (go_region_with (first
            | (go_at_call 7; (with_reducible refine (CV.out _).mono ?_); rintro r wn ⟨rfl, hE⟩; have st : Ext V wn := Ext.trans (by assumption) hE; clear hE; obtain ⟨⟨a0, a1⟩, b0, b1, b2, b3, b4⟩ := HC.out wn st)
            | (go_at_call 29; (with_reducible refine (CL.out _ (HTV.out _ (by assumption))).mono ?_); rintro r wn ⟨v1, rfl, hv1, hE⟩; have st : Ext V wn := Ext.trans (by assumption) hE; clear hE; obtain ⟨⟨a0, a1⟩, b0, b1, b2, b3, b4⟩ := HC.out wn st)
            | (go_at_call 28; (with_reducible refine (refLess_any _ _ 0 i1 _ d1 _ HL1.out _ (HN.out _ (by assumption)) hv1 (HTV.out _ (by assumption))).mono ?_); rintro r wn ⟨rfl, hE⟩; have st : Ext V wn := Ext.trans (by assumption) hE; clear hE; obtain ⟨⟨a0, a1⟩, b0, b1, b2, b3, b4⟩ := HC.out wn st))) | fail "no walk"
        all_goals
          go_wp2
          go_ret
          exact ⟨ret_bool (by first | exact HBB.out | (rw [← HBB.out]; rfl) | simpa using HBB.out), Ext.trans HB.out (by assumption)⟩
      | false =>
        have HBB := Lib.hid (show (!l2) = b by rw [← hb]; rfl)
        clear hb
        go_region_held3 (fun wx => (wx.cell? ⟨B, 0, none⟩ = some (.int .u64 (lo : Int)) ∧ wx.cell? ⟨B, 1, none⟩ = some (.int .u64 (hi : Int))) ∧ (wx.cell? ⟨D, 0, none⟩ = some (.int .i64 0) ∧ wx.cell? ⟨D, 1, none⟩ = some (.bool false) ∧ wx.cell? ⟨D, 2, none⟩ = some (.bool rn) ∧ wx.cell? ⟨D, 3, none⟩ = some (.slice ro rk rc) ∧ wx.cell? ⟨D, 4, none⟩ = some (.int .i64 re)))
          (first | exact HC.out _ (by assumption))
          (first
            | (go_at_call 7; (with_reducible refine (CV.out _).mono ?_); rintro r wn ⟨rfl, hE⟩; have st : Ext V wn := Ext.trans (by assumption) hE; clear hE)
            | (go_at_call 29; (with_reducible refine (CL.out _ (HTV.out _ (by assumption))).mono ?_); rintro r wn ⟨v1, rfl, hv1, hE⟩; have st : Ext V wn := Ext.trans (by assumption) hE; clear hE)
            | (go_at_call 28; (with_reducible refine (refLess_any _ _ 0 i1 _ d1 _ HL1.out _ (HN.out _ (by assumption)) hv1 (HTV.out _ (by assumption))).mono ?_); rintro r wn ⟨rfl, hE⟩; have st : Ext V wn := Ext.trans (by assumption) hE; clear hE)
            | (go_at_call 29; (with_reducible refine (CH.out _ (HTV.out _ (by assumption))).mono ?_); rintro r wn ⟨v2, rfl, hv2, hE⟩; have st : Ext V wn := Ext.trans (by assumption) hE; clear hE)
            | (go_at_call 28; (with_reducible refine (refLess_any _ _ i2 0 d2 _ _ HL2.out _ hv2 (HN.out _ (by assumption)) (HTV.out _ (by assumption))).mono ?_); rintro r wn ⟨rfl, hE⟩; have st : Ext V wn := Ext.trans (by assumption) hE; clear hE))
        go_wp2
        go_ret
        exact ⟨ret_bool (by first | exact HBB.out | (rw [← HBB.out]; rfl) | simpa using HBB.out), Ext.trans HB.out (by assumption)⟩
end Go.Proofs.YtjohpdobnedilaaDoor
