import Derived.Test.YtekocoklfnojmaaGreatDoorIMiddleU30
import Derived.Test.YtekocoklfnojmaaGreatDoorIMiddleU39
import Derived.Test.YtekocoklfnojmaaGreatDoorIMiddleU29
import Derived.Test.YtekocoklfnojmaaGreatDoorIMiddleU17
import Derived.Test.YtekocoklfnojmaaGreatDoorIMiddleU6
namespace Go.Proofs.YtekocoklfnojmaaGreatDoor
open Go.RowKit


/-- is zero an element of an interval? -/
def containsF (c d : Nat) : Bool := !lessF 0 c && !lessF d 0

set_option maxRecDepth 100000 in
set_option maxHeartbeats 2000000 in
theorem contains_any (c d : Nat) (hc : c < 18446744073709551616) (hd : d < 18446744073709551616) (w : World) :
    Calls Tryz.prog 77 #[.agg #[.int .u64 (c : Int), .int .u64 (d : Int)]] w fun e w' => e = .returned (.bool (containsF c d)) ∧ Ext w w' := by
  unfold containsF
  obtain ⟨p, hp⟩ : ∃ p, lessF 0 c = p := ⟨_, rfl⟩
  obtain ⟨q, hq⟩ : ∃ q, lessF d 0 = q := ⟨_, rfl⟩
  have C1 := Lib.hid (isLess_at 0 c (by decide) hc rfl rfl p hp)
  have C2 := Lib.hid (isLess_at d 0 hd (by decide) rfl rfl q hq)
  rw [hp, hq]
  clear hp hq hc hd
  go_enter Tryz.func77, Tryz.ntmps77
  go_wp2_with fail
  obtain ⟨W, hW, hB, hx, hsz⟩ := ibox_new w c d
  rw [← hW]
  clear hW
  have c0 := hx.c0
  have c1 := hx.c1
  have HB := Lib.hid hB
  generalize w.heap.size = B at hx c0 c1 ⊢
  clear hB hsz
  go_wp2_with fail
  refine (C1.out _).mono ?_
  rintro r w1 ⟨rfl, hE⟩
  have hx := hx.below hE
  have HB := Lib.hid (HB.out.trans hE)
  clear c0 c1 hE
  have c0 := hx.c0
  have c1 := hx.c1
  cases p with
  | true =>
    go_wp2
    go_ret
    exact ⟨rfl, HB.out⟩
  | false =>
    go_wp2_with fail
    refine (C2.out _).mono ?_
    rintro r w2 ⟨rfl, hE⟩
    have HB := Lib.hid (HB.out.trans hE)
    clear c0 c1 hE
    go_wp2
    go_ret
    exact ⟨rfl, HB.out⟩

end Go.Proofs.YtekocoklfnojmaaGreatDoor

namespace Go.Proofs.YtekocoklfnojmaaGreatDoor
open Go.RowKit

/-- is the number an element? -/
def contB (lo hi : Nat) (d : Dy) : Bool := validF lo hi && d.isSome && !lessN 0 d (numI lo) (numD lo) && !lessN (numI hi) (numD hi) 0 d

theorem fin_of {c : Nat} (hc : c < 18446744073709551616) (h1 : nanB c = false) (h2 : c ≠ 9218868437227405312) (h3 : c ≠ 18442240474082181120) : finB c = true := by
  have h := of_decide_eq_false h1
  unfold finB
  apply decide_eq_true
  unfold fmag at h ⊢
  omega
theorem sc_less {a b : Nat} (ha : finB a = true) (hb : finB b = true) : decide (sc (fdy a) < sc (fdy b)) = decide (frank a < frank b) := by
  have h := fdy_rank ha hb
  generalize sc (fdy a) = X at *
  generalize sc (fdy b) = Y at *
  generalize frank a = x at *
  generalize frank b = y at *
  apply decide_eq_decide.2
  unfold sgn3 at h
  split at h <;> split at h <;> first | (constructor <;> intro <;> assumption) | (split at h <;> first | omega | (split at h <;> omega)) | omega
theorem box_id (w : World) (lo hi : Int) (bb nb : Bool) (ao : Option Addr) (n ca : Nat) (e : Int) :
    ∃ W, W = (w.alloc (.cells #[.int .u64 lo, .int .u64 hi] 25)).alloc (.cells #[.bool bb, .bool nb, .slice ao n ca, .int .i64 e] 36) ∧ Ext w W ∧ IBox W w.heap.size lo hi ∧ DBox W (w.heap.size + 1) bb nb ao n ca e := by
  refine ⟨_, rfl, ((Below.refl _ w).alloc (Nat.le_refl _) _).alloc (by simp) _, ?_, ?_⟩
  · exact (IBox.new w lo hi).below ((Below.refl _ _).alloc (Nat.le_refl _) _)
  · have := DBox.new (w.alloc (.cells #[.int .u64 lo, .int .u64 hi] 25)) bb nb ao n ca e
    simpa using this

set_option maxRecDepth 100000 in
set_option maxHeartbeats 16000000 in
theorem refContains_any (lo hi : Nat) (hl : lo < 18446744073709551616) (hh : hi < 18446744073709551616) (v : Value) (d : Dy) (b : Bool) (hb : contB lo hi d = b) (w : World) (hv : Dl w v d) (hT : Table w) :
    Calls Tryz.prog 33 #[.agg #[.int .u64 (lo : Int), .int .u64 (hi : Int)], v] w fun e w' => e = .returned (.bool b) ∧ Ext w w' := by
  obtain ⟨ub, un, uo, uk, uc, ux, uf, rfl, hrest⟩ := hv
  have hv : Dl w (.agg #[.bool ub, .bool un, .slice uo uk uc, .int .i64 uf]) d := ⟨ub, un, uo, uk, uc, ux, uf, rfl, hrest⟩
  clear hrest
  obtain ⟨p, hp⟩ : ∃ p, validF lo hi = p := ⟨_, rfl⟩
  obtain ⟨l1, hl1⟩ : ∃ l, lessN 0 d (numI lo) (numD lo) = l := ⟨_, rfl⟩
  obtain ⟨l2, hl2⟩ : ∃ l, lessN (numI hi) (numD hi) 0 d = l := ⟨_, rfl⟩
  unfold contB at hb
  rw [hp, hl1, hl2] at hb
  have CV := Lib.hid (refValid_any lo hi hl hh p hp)
  have CL := Lib.hid (fun w hT => refNumOf_any lo hl _ _ rfl rfl w hT)
  have CH := Lib.hid (fun w hT => refNumOf_any hi hh _ _ rfl rfl w hT)
  have HL1 := Lib.hid hl1
  have HL2 := Lib.hid hl2
  have HT := Lib.hid hT
  clear hp hl1 hl2 hT hl hh
  generalize numI lo = i1 at *
  generalize numD lo = d1 at *
  generalize numI hi = i2 at *
  generalize numD hi = d2 at *
  go_enter Tryz.func33, Tryz.ntmps33
  go_upto_region 1 with fail
  obtain ⟨W, hW, hB, hx, hy⟩ := box_id w lo hi ub un uo uk uc uf
  rw [← hW]
  clear hW
  have HB := Lib.hid hB
  have HT := Lib.hid (HT.out.below hB)
  have hv := hv.ext hB
  generalize w.heap.size = B at hx hy ⊢
  clear hB
  have y0 := hy.c0
  have y1 := hy.c1
  have y2 := hy.c2
  have y3 := hy.c3
  go_wp2_with fail
  refine (refDNorm_any _ d _ hv HT.out).mono ?_
  rintro e w1 ⟨r, rfl, hr, hw1⟩
  have hx := hx.below hw1
  have HB := Lib.hid (HB.out.trans hw1)
  have HT := Lib.hid (HT.out.below hw1)
  obtain ⟨rb, rn, ro, rk, rc, re, rfl⟩ := hr.parts
  clear hy y0 y1 y2 y3 hw1 hv
  go_upto_region 2 with fail
  obtain ⟨V, hV, hE, hn, hsz⟩ := nbx_new w1 0 rb rn ro rk rc re
  rw [← hV]
  clear hV
  have hx := hx.below hE
  have HB := Lib.hid (HB.out.trans hE)
  have HTV := Lib.hid (show ∀ wx, Ext V wx → Table wx from fun wx h => (HT.out.below hE).below h)
  have hr := hr.ext hE
  have HN := Lib.hid (show ∀ wx, Ext V wx → NumV wx (.agg #[.int .i64 0, .bool rb, .bool rn, .slice ro rk rc, .int .i64 re]) 0 d from fun wx h => ⟨_, _, _, _, _, _, rfl, hr.ext h⟩)
  generalize w1.heap.size = D at hn ⊢
  clear hE hsz HT
  have HC := Lib.hid (show ∀ wx, Ext V wx → (wx.cell? ⟨B, 0, none⟩ = some (.int .u64 (lo : Int)) ∧ wx.cell? ⟨B, 1, none⟩ = some (.int .u64 (hi : Int))) ∧ (wx.cell? ⟨D, 0, none⟩ = some (.int .i64 0) ∧ wx.cell? ⟨D, 1, none⟩ = some (.bool rb) ∧ wx.cell? ⟨D, 2, none⟩ = some (.bool rn) ∧ wx.cell? ⟨D, 3, none⟩ = some (.slice ro rk rc) ∧ wx.cell? ⟨D, 4, none⟩ = some (.int .i64 re)) from fun wx h => ⟨⟨(hx.below h).c0, (hx.below h).c1⟩, (hn.below h).c0, (hn.below h).c1, (hn.below h).c2, (hn.below h).c3, (hn.below h).c4⟩)
  obtain ⟨⟨a0, a1⟩, b0, b1, b2, b3, b4⟩ := HC.out V (Ext.refl _)
  have st : Ext V V.drew := (Below.refl _ _).drew
  have HR := Lib.hid hr
  clear hr hx hn
  cases p with
  | false =>
    have HBB := Lib.hid (show false = b by rw [← hb]; rfl)
    clear hb
    first | (go_region_with (first
        | (go_at_call 9; (with_reducible refine (CV.out _).mono ?_); rintro r wn ⟨rfl, hE⟩; have st : Ext V wn := Ext.trans (by assumption) hE; clear hE; obtain ⟨⟨a0, a1⟩, b0, b1, b2, b3, b4⟩ := HC.out wn st))) | fail "no walk"
    all_goals
      go_wp2
      go_ret
      exact ⟨ret_bool (by first | exact HBB.out | (rw [← HBB.out]; rfl) | simpa using HBB.out), Ext.trans HB.out (by assumption)⟩
  | true =>
    cases d with
    | none =>
      obtain rfl := dn_none HR.out
      have HBB := Lib.hid (show false = b by rw [← hb]; rfl)
      clear hb
      first | (go_region_with (first
          | (go_at_call 9; (with_reducible refine (CV.out _).mono ?_); rintro r wn ⟨rfl, hE⟩; have st : Ext V wn := Ext.trans (by assumption) hE; clear hE; obtain ⟨⟨a0, a1⟩, b0, b1, b2, b3, b4⟩ := HC.out wn st))) | fail "no walk"
      all_goals
        go_wp2
        go_ret
        exact ⟨ret_bool (by first | exact HBB.out | (rw [← HBB.out]; rfl) | simpa using HBB.out), Ext.trans HB.out (by assumption)⟩
    | some q =>
      obtain ⟨m, f⟩ := q
      obtain ⟨rfl, rfl, -⟩ := dn_some HR.out
      cases l1 with
      | true =>
        have HBB := Lib.hid (show false = b by rw [← hb]; rfl)
        clear hb
        first | (go_region_with (first
            | (go_at_call 9; (with_reducible refine (CV.out _).mono ?_); rintro r wn ⟨rfl, hE⟩; have st : Ext V wn := Ext.trans (by assumption) hE; clear hE; obtain ⟨⟨a0, a1⟩, b0, b1, b2, b3, b4⟩ := HC.out wn st)
            | (go_at_call 72; (with_reducible refine (CL.out _ (HTV.out _ (by assumption))).mono ?_); rintro r wn ⟨v1, rfl, hv1, hE⟩; have st : Ext V wn := Ext.trans (by assumption) hE; clear hE; obtain ⟨⟨a0, a1⟩, b0, b1, b2, b3, b4⟩ := HC.out wn st)
            | (go_at_call 85; (with_reducible refine (refLess_any _ _ 0 i1 _ d1 _ HL1.out _ (HN.out _ (by assumption)) hv1 (HTV.out _ (by assumption))).mono ?_); rintro r wn ⟨rfl, hE⟩; have st : Ext V wn := Ext.trans (by assumption) hE; clear hE; obtain ⟨⟨a0, a1⟩, b0, b1, b2, b3, b4⟩ := HC.out wn st))) | fail "no walk"
        all_goals
          go_wp2
          go_ret
          exact ⟨ret_bool (by first | exact HBB.out | (rw [← HBB.out]; rfl) | simpa using HBB.out), Ext.trans HB.out (by assumption)⟩
      | false =>
        have HBB := Lib.hid (show (!l2) = b by rw [← hb]; rfl)
        clear hb
        go_region_held3 (fun wx => (wx.cell? ⟨B, 0, none⟩ = some (.int .u64 (lo : Int)) ∧ wx.cell? ⟨B, 1, none⟩ = some (.int .u64 (hi : Int))) ∧ (wx.cell? ⟨D, 0, none⟩ = some (.int .i64 0) ∧ wx.cell? ⟨D, 1, none⟩ = some (.bool false) ∧ wx.cell? ⟨D, 2, none⟩ = some (.bool rn) ∧ wx.cell? ⟨D, 3, none⟩ = some (.slice ro rk rc) ∧ wx.cell? ⟨D, 4, none⟩ = some (.int .i64 re)))
          (first | exact HC.out _ (by assumption))
          (first
            | (go_at_call 9; (with_reducible refine (CV.out _).mono ?_); rintro r wn ⟨rfl, hE⟩; have st : Ext V wn := Ext.trans (by assumption) hE; clear hE)
            | (go_at_call 72; (with_reducible refine (CL.out _ (HTV.out _ (by assumption))).mono ?_); rintro r wn ⟨v1, rfl, hv1, hE⟩; have st : Ext V wn := Ext.trans (by assumption) hE; clear hE)
            | (go_at_call 85; (with_reducible refine (refLess_any _ _ 0 i1 _ d1 _ HL1.out _ (HN.out _ (by assumption)) hv1 (HTV.out _ (by assumption))).mono ?_); rintro r wn ⟨rfl, hE⟩; have st : Ext V wn := Ext.trans (by assumption) hE; clear hE)
            | (go_at_call 72; (with_reducible refine (CH.out _ (HTV.out _ (by assumption))).mono ?_); rintro r wn ⟨v2, rfl, hv2, hE⟩; have st : Ext V wn := Ext.trans (by assumption) hE; clear hE)
            | (go_at_call 85; (with_reducible refine (refLess_any _ _ i2 0 d2 _ _ HL2.out _ hv2 (HN.out _ (by assumption)) (HTV.out _ (by assumption))).mono ?_); rintro r wn ⟨rfl, hE⟩; have st : Ext V wn := Ext.trans (by assumption) hE; clear hE))
        go_wp2
        go_ret
        exact ⟨ret_bool (by first | exact HBB.out | (rw [← HBB.out]; rfl) | simpa using HBB.out), Ext.trans HB.out (by assumption)⟩
end Go.Proofs.YtekocoklfnojmaaGreatDoor

namespace Go.Proofs.YtekocoklfnojmaaGreatDoor
open Go.RowKit

/-- is a float an element? -/
def contF (lo hi f : Nat) : Bool := validF lo hi && finB f && decide (frank lo ≤ frank f) && decide (frank f ≤ frank hi)

theorem rank_is_inf {f : Nat} (hf : f < 18446744073709551616) : frank f = 9218868437227405312 ↔ f = 9218868437227405312 := by
  unfold frank fneg fmag
  by_cases h : 9223372036854775808 ≤ f
  · rw [decide_eq_true h, if_pos rfl]; omega
  · rw [decide_eq_false h, if_neg (by simp)]; omega
theorem rank_is_ninf {f : Nat} (hf : f < 18446744073709551616) : frank f = -9218868437227405312 ↔ f = 18442240474082181120 := by
  unfold frank fneg fmag
  by_cases h : 9223372036854775808 ≤ f
  · rw [decide_eq_true h, if_pos rfl]; omega
  · rw [decide_eq_false h, if_neg (by simp)]; omega
theorem rank_le {f : Nat} (h : nanB f = false) : -9218868437227405312 ≤ frank f ∧ frank f ≤ 9218868437227405312 := by
  have h1 : ¬ 9218868437227405312 < fmag f := of_decide_eq_false h
  unfold frank
  split <;> omega
theorem valid_iff {lo hi : Nat} (hl : lo < 18446744073709551616) (hh : hi < 18446744073709551616) : validF lo hi = true ↔ nanB lo = false ∧ nanB hi = false ∧ frank lo ≤ frank hi ∧ frank lo < 9218868437227405312 ∧ -9218868437227405312 < frank hi := by
  unfold validF
  simp only [Bool.and_eq_true, Bool.not_eq_true', decide_eq_true_eq]
  constructor
  · rintro ⟨⟨⟨⟨h1, h2⟩, h3⟩, h4⟩, h5⟩
    have a1 := rank_le h1
    have a2 := rank_le h2
    refine ⟨h1, h2, h3, ?_, ?_⟩
    · have : frank lo ≠ 9218868437227405312 := fun e => h4 ((rank_is_inf hl).1 e)
      omega
    · have : frank hi ≠ -9218868437227405312 := fun e => h5 ((rank_is_ninf hh).1 e)
      omega
  · rintro ⟨h1, h2, h3, h4, h5⟩
    refine ⟨⟨⟨⟨h1, h2⟩, h3⟩, fun e => ?_⟩, fun e => ?_⟩
    · have := (rank_is_inf hl).2 e; omega
    · have := (rank_is_ninf hh).2 e; omega
theorem fin_rank_lt {f : Nat} (h : finB f = true) : -9218868437227405312 < frank f ∧ frank f < 9218868437227405312 := by
  have h1 : fmag f < 9218868437227405312 := of_decide_eq_true h
  unfold frank
  split <;> omega

theorem cont_fl (lo hi f : Nat) (hl : lo < 18446744073709551616) (hh : hi < 18446744073709551616) : contB lo hi (fdy f) = contF lo hi f := by
  unfold contB contF
  cases hv : validF lo hi with
  | false => rfl
  | true =>
    cases hf : finB f with
    | false =>
      have : fdy f = none := by unfold fdy; rw [hf]; rfl
      rw [this]; rfl
    | true =>
      have hsm : (fdy f).isSome = true := by
        have := fdy_some hf
        cases hq : fdy f with
        | none => exact absurd hq this
        | some p => rfl
      unfold validF at hv
      simp only [Bool.and_eq_true, Bool.not_eq_true', decide_eq_true_eq] at hv
      obtain ⟨⟨⟨⟨n1, n2⟩, -⟩, e1⟩, e2⟩ := hv
      obtain ⟨b1, b2⟩ := fin_rank_lt hf
      have g1 : lessN 0 (fdy f) (numI lo) (numD lo) = decide (frank f < frank lo) := by
        by_cases hc1 : lo = 18442240474082181120
        · rw [decide_eq_false (by rw [(rank_is_ninf hl).2 hc1]; omega)]
          unfold numI numD lessN
          rw [if_neg e1, if_pos hc1, if_pos (by simp)]
          rfl
        · have hg := fin_of hl n1 e1 hc1
          unfold numI numD lessN
          rw [if_neg e1, if_neg hc1, if_neg e1, if_neg hc1, if_neg (by simp), ← sc_less hf hg, hsm]
          have := fdy_some hg
          cases hq : fdy lo with
          | none => exact absurd hq this
          | some p => rfl
      have g2 : lessN (numI hi) (numD hi) 0 (fdy f) = decide (frank hi < frank f) := by
        by_cases hc1 : hi = 9218868437227405312
        · rw [decide_eq_false (by rw [(rank_is_inf hh).2 hc1]; omega)]
          unfold numI numD lessN
          rw [if_pos hc1, if_pos (by simp)]
          rfl
        · have hg := fin_of hh n2 hc1 e2
          unfold numI numD lessN
          rw [if_neg hc1, if_neg e2, if_neg hc1, if_neg e2, if_neg (by simp), ← sc_less hg hf, hsm]
          have := fdy_some hg
          cases hq : fdy hi with
          | none => exact absurd hq this
          | some p => rfl
      rw [hsm, g1, g2]
      simp only [Bool.true_and, ← decide_not, Int.not_lt]

theorem plain_facts (f : Nat) : nanB (plainF f) = nanB f ∧ frank (plainF f) = frank f := by
  unfold plainF
  split
  · rename_i h; subst h; decide
  · exact ⟨rfl, rfl⟩
theorem plainF_lt {f : Nat} (h : f < 18446744073709551616) : plainF f < 18446744073709551616 := by unfold plainF; split <;> omega
theorem more_step {m f : Nat} (hm : nanB m = false) (hf : nanB f = false) : nanB (if lessF m f then f else m) = false ∧ frank (if lessF m f then f else m) = max (frank m) (frank f) := by
  unfold lessF
  rw [hm, hf]
  by_cases h : frank m < frank f
  · rw [decide_eq_true h]; exact ⟨hf, by simp; omega⟩
  · rw [decide_eq_false h]; exact ⟨hm, by simp; omega⟩
theorem less_step {m f : Nat} (hm : nanB m = false) (hf : nanB f = false) : nanB (if lessF f m then f else m) = false ∧ frank (if lessF f m then f else m) = min (frank m) (frank f) := by
  unfold lessF
  rw [hm, hf]
  by_cases h : frank f < frank m
  · rw [decide_eq_true h]; exact ⟨hf, by simp; omega⟩
  · rw [decide_eq_false h]; exact ⟨hm, by simp; omega⟩
theorem great_two {a c : Nat} (ha : nanB a = false) (hc : nanB c = false) : nanB (greatF [a, c]) = false ∧ frank (greatF [a, c]) = max (frank a) (frank c) := by
  obtain ⟨h1, h2⟩ := more_step (m := 18442240474082181120) (by decide) ha
  obtain ⟨h3, h4⟩ := more_step h1 hc
  refine ⟨h3, ?_⟩
  show frank (if lessF (if lessF 18442240474082181120 a then a else 18442240474082181120) c then c else (if lessF 18442240474082181120 a then a else 18442240474082181120)) = _
  rw [h4, h2, show frank 18442240474082181120 = -9218868437227405312 by decide]
  have := rank_le ha
  omega
theorem least_two {b d : Nat} (hb : nanB b = false) (hd : nanB d = false) : nanB (leastF [b, d]) = false ∧ frank (leastF [b, d]) = min (frank b) (frank d) := by
  obtain ⟨h1, h2⟩ := less_step (m := 9218868437227405312) (by decide) hb
  obtain ⟨h3, h4⟩ := less_step h1 hd
  refine ⟨h3, ?_⟩
  show frank (if lessF d (if lessF b 9218868437227405312 then b else 9218868437227405312) then d else (if lessF b 9218868437227405312 then b else 9218868437227405312)) = _
  rw [h4, h2, show frank 9218868437227405312 = 9218868437227405312 by decide]
  have := rank_le hb
  omega
theorem two_lt {a c : Nat} (ha : a < 18446744073709551616) (hc : c < 18446744073709551616) : (∀ x ∈ [a, c], x < 18446744073709551616) := by
  intro x hx
  rcases List.mem_cons.1 hx with rfl | hx
  · exact ha
  · rcases List.mem_cons.1 hx with rfl | hx
    · exact hc
    · cases hx

theorem less_rank {a b : Nat} (ha : nanB a = false) (hb : nanB b = false) : lessF a b = decide (frank a < frank b) := by unfold lessF; rw [ha, hb]; rfl
theorem sub_rank {a b c d : Nat} (h1 : validF a b = true) (h2 : validF c d = true) : subF a b c d = (decide (frank c ≤ frank a) && decide (frank b ≤ frank d)) := by
  unfold subF
  have e1 := h1
  have e2 := h2
  unfold validF at e1 e2
  simp only [Bool.and_eq_true, Bool.not_eq_true', decide_eq_true_eq] at e1 e2
  rw [h1, h2, less_rank e1.1.1.1.1 e2.1.1.1.1, less_rank e2.1.1.1.2 e1.1.1.1.2]
  simp only [Bool.true_and, ← decide_not, Int.not_lt]

section
variable {a b c d f : Nat} (ha : a < 18446744073709551616) (hb : b < 18446744073709551616) (hc : c < 18446744073709551616) (hd : d < 18446744073709551616)
include ha hb hc hd

end
end Go.Proofs.YtekocoklfnojmaaGreatDoor

namespace Go.Proofs.YtekocoklfnojmaaGreatDoor

theorem fma_num {a b c : Nat} (mode : Int) (ha : finB a = true) (hb : finB b = true) (hc : finB c = true) (hcl : c < 18446744073709551616) : nanB (fmaF a b c mode) = false ∧ fmaF a b c mode < 18446744073709551616 := by
  obtain ⟨a1, a2⟩ := fin_not ha
  obtain ⟨b1, b2⟩ := fin_not hb
  obtain ⟨c1, c2⟩ := fin_not hc
  unfold fmaF
  rw [a1, a2, b1, b2, c1, c2]
  simp only [Bool.or_false, Bool.false_or, Bool.false_and, Bool.false_eq_true, if_false]
  split
  · exact ⟨(cancel_num mode).1, (cancel_num mode).2.1⟩
  · split
    · exact ⟨c1, hcl⟩
    · exact rsum_num _ _ _
theorem add_num {a b : Nat} (mode : Int) (ha : finB a = true) (hb : finB b = true) (hbl : b < 18446744073709551616) : nanB (faddF a b mode) = false ∧ faddF a b mode < 18446744073709551616 := fma_num mode ha fin_one hb hbl
theorem fin_plain {a : Nat} (h : finB a = true) : finB (plainF a) = true := by
  unfold plainF; split
  · decide
  · exact h
end Go.Proofs.YtekocoklfnojmaaGreatDoor
