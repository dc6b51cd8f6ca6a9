import Derived.Test.YtkomhemjodbkpaaDoorTxOrdU37
import Derived.Test.YtkomhemjodbkpaaDoorTxOrdU9
import Derived.Test.YtkomhemjodbkpaaDoorTxOrdU26
import Derived.Deep.QuietTactic
import Derived.Deep.CutRange
import Derived.Deep.RegionHeld3
import Derived.Deep.RegionWith
namespace Go.Proofs.YtkomhemjodbkpaaDoor
open Go Go.RowKit

theorem bn_none (w : World) : Bn w false none 0 0 0 := ⟨rfl, by show Sl _ none 0 0 (limbs 0); rw [limbs_zero]; exact Sl.nil _⟩
/-- what is said of a text: the number, and the error -/
def digitsOf (l : List UInt8) : List UInt8 := if decide ((l.getD 0 0).toNat = 43) || decide ((l.getD 0 0).toNat = 45) then l.drop 1 else l
def parseSays (l : List UInt8) : Int × Int :=
  if 1024 < l.length then (0, 2)
  else if decide ((digitsOf l).length ≠ 0) && (digitsOf l).all isDig then (if decide ((l.getD 0 0).toNat = 45) then -((hornD 0 (digitsOf l) : Nat) : Int) else ((hornD 0 (digitsOf l) : Nat) : Int), 0)
  else (0, 7)
theorem beq_nat (x k : Nat) : ((x : Int) == (k : Int)) = decide (x = k) := by
  by_cases h : x = k
  · rw [h, decide_eq_true rfl]; simp
  · rw [decide_eq_false h]; exact beq_eq_false_iff_ne.2 (by omega)
theorem Sl.past_box {w w' : World} {g : Nat} {nb : Bool} {bo ao : Option Addr} {m cb n cap : Nat} {zs : List Int} (h : Sl w ao n cap zs) (hx : Box w g nb bo m cb) (ho : Only g w w') : Sl w' ao n cap zs := by
  refine ⟨h.len, h.cap, h.big, h.wf, fun h0 => ?_⟩
  obtain ⟨b, off, e, hc⟩ := h.cells h0
  refine ⟨b, off, e, fun j hj => ?_⟩
  have hj' := hc j hj
  have hne : b ≠ g := fun he => by
    subst he
    have := cell_of_row w b (off + j) _ _ _ hx
    rw [this] at hj'
    match off + j, hj' with
    | 0, h => simp at h
    | 1, h => simp at h
    | k + 2, h => simp at h
  have e1 : w'.heap[b]? = w.heap[b]? := ho.block b hne
  have e2 : w'.cell? ⟨b, off + j, none⟩ = w.cell? ⟨b, off + j, none⟩ := World.cell?_of_block (w := w) e1
  rw [e2]; exact hj'
theorem bn_horn {w : World} {so : Option Addr} {sc m : Nat} (ng : Bool) {fb : Bool} {N : Nat} (hfb : (ng && decide (0 < m)) = fb) (hm : (limbs N).length = m) (h : Sl w so m sc (limbs N)) : Bn w fb so m sc (if ng then -((N : Nat) : Int) else (N : Int)) := by
  have h0 := len_zero_iff hm
  refine ⟨?_, ?_⟩
  · rw [← hfb]
    cases ng with
    | false => simp
    | true =>
      simp only [Bool.true_and, if_true]
      exact decide_eq_decide.2 (by omega)
  · have : (if ng then -((N : Nat) : Int) else (N : Int)).natAbs = N := by split <;> omega
    rw [this]; exact h
/-- the outcome of a Parse: a number and an error -/
def ParseOut (X E : Int) (w : World) (e : Ending) (w' : World) : Prop := ∃ nb ao n ca, e = .returned (.tuple #[.agg #[.bool nb, .slice ao n ca], .int .i64 E]) ∧ Bn w' nb ao n ca X ∧ Below w.heap.size w w'

set_option maxRecDepth 100000 in
set_option maxHeartbeats 8000000 in
theorem parse_any (s : ByteArray) (hs : s.size ≤ 100000) (X E : Int) (hX : (parseSays s.data.toList).1 = X) (hE : (parseSays s.data.toList).2 = E) (w : World) :
    Calls Tryd.prog 7 #[.string s] w (ParseOut X E w) := by
  have HL := Lib.hid (Lib.size_eq s)
  go_enter Tryd.func7, Tryd.ntmps7
  go_upto_region 1 with fail
  obtain ⟨W, hW, hB, hx, -⟩ := box_new w false none 0 0
  rw [← hW]
  clear hW
  generalize hBe : w.heap.size = B at *
  have HBe := Lib.hid hBe
  have HBW := Lib.hid hB
  have HX := Lib.hid hx
  clear hBe hB hx
  by_cases hbig : 1024 < s.size
  · have hbig' : (1024 : Int) < (s.size : Int) := by omega
    have e1 : parseSays s.data.toList = (0, 2) := by unfold parseSays; rw [if_pos (by rw [← HL.out]; exact hbig)]
    rw [e1] at hX hE
    have HS1 := Lib.hid hX
    have HS2 := Lib.hid hE
    clear hX hE e1
    have q0 := HX.out.c0
    have q1 := HX.out.c1
    have q2 := HX.out.f 0
    have q3 := HX.out.f 1
    have hst := HX.out.stored false none 0 0
    have u0 := hst.c0
    have u1 := hst.c1
    have hbl := Lib.hid (HBW.out.trans ((only_set2 W B (.bool false) (.slice none 0 0)).below (Nat.le_refl _)))
    clear hst
    go_wp2
    refine bodyPost_ret (v := .tuple #[.agg #[.bool false, .slice none 0 0], .int .i64 2]) (by simp [results, Tryd.results7, go_sem, u0, u1]) rfl ?_
    refine ⟨false, none, 0, 0, by rw [← HS2.out], by rw [← HS1.out]; exact bn_none _, ?_⟩
    rw [HBe.out]; exact hbl.out
  · have hbig' : ¬ (1024 : Int) < (s.size : Int) := by omega
    obtain ⟨D, hD⟩ : ∃ D, digitsOf s.data.toList = D := ⟨_, rfl⟩
    obtain ⟨b, hb⟩ : ∃ b, (decide (D.length ≠ 0) && D.all isDig) = b := ⟨_, rfl⟩
    obtain ⟨ng, hng⟩ : ∃ ng, decide ((s.data.toList.getD 0 0).toNat = 45) = ng := ⟨_, rfl⟩
    have e1 : parseSays s.data.toList = if b then ((if ng then -((hornD 0 D : Nat) : Int) else ((hornD 0 D : Nat) : Int)), 0) else (0, 7) := by unfold parseSays; rw [if_neg (by rw [← HL.out]; exact hbig), hD, hb, hng]
    rw [e1] at hX hE
    have HS1 := Lib.hid hX
    have HS2 := Lib.hid hE
    clear hX hE e1
    by_cases h0 : s.size = 0
    · have hem : s.toList.isEmpty = true := by rw [Lib.toList_data]; rw [HL.out] at h0; rw [List.eq_nil_of_length_eq_zero h0]; rfl
      have hnil : s.data.toList = [] := by rw [HL.out] at h0; exact List.eq_nil_of_length_eq_zero h0
      rw [hnil] at hD
      obtain rfl : [] = D := by rw [← hD]; rfl
      obtain rfl : false = b := by rw [← hb]; rfl
      have HBd := Lib.hid (show (decide (s.size ≠ 0) && s.data.toList.all isDig) = false by rw [decide_eq_false (by omega)]; rfl)
      clear hD hb hng hnil
      obtain ⟨b, hbf⟩ : ∃ b, b = false := ⟨_, rfl⟩
      rw [← hbf] at HBd
      have I := Lib.hid (isDigits_any s (by omega) b HBd.out W)
      go_wp2_with fail
      refine I.out.mono ?_
      rintro e w1 ⟨rfl, rfl⟩
      clear I
      subst hbf
      have q0 := HX.out.c0
      have q1 := HX.out.c1
      have q2 := HX.out.f 0
      have q3 := HX.out.f 1
      have hst := HX.out.stored false none 0 0
      have u0 := hst.c0
      have u1 := hst.c1
      have hbl := Lib.hid (HBW.out.trans ((only_set2 W B (.bool false) (.slice none 0 0)).below (Nat.le_refl _)))
      clear hst
      go_wp2
      refine bodyPost_ret (v := .tuple #[.agg #[.bool false, .slice none 0 0], .int .i64 7]) (by simp [results, Tryd.results7, go_sem, u0, u1]) rfl ?_
      refine ⟨false, none, 0, 0, by rw [← HS2.out]; rfl, by rw [← HS1.out]; exact bn_none _, ?_⟩
      rw [HBe.out]; exact hbl.out
    · have hem : s.toList.isEmpty = false := by rw [Lib.toList_data]; rw [HL.out] at h0; cases h : s.data.toList with | nil => rw [h] at h0; exact absurd rfl h0 | cons a l => rfl
      have hpos : 0 < s.size := by omega
      have hpi : (1 : Int) ≤ (s.size : Int) := by omega
      obtain ⟨x, hx⟩ : ∃ x : Nat, (s.data.toList.getD 0 0).toNat = x := ⟨_, rfl⟩
      have hix : ∀ W, (Instr.index 9 (.string s) (.int .i64 0)).run Tryd.prog W = .ok (.int .u8 ((x : Nat) : Int)) W := fun W => by
        have := run_byte hpos W
        rw [hx] at this
        exact this
      unfold digitsOf at hD
      rw [hx] at hD hng
      obtain ⟨p, hp⟩ : ∃ p, decide (x = 43) = p := ⟨_, rfl⟩
      rw [hp, hng] at hD
      have hq1 : ((x : Int) == 43) = p := by rw [← hp]; exact beq_nat x 43
      have hq2 : ((x : Int) == 45) = ng := by rw [← hng]; exact beq_nat x 45
      clear hp hng hx
      have SGN := Lib.hid hb
      have HDD := Lib.hid hD
      clear hb hD
      have hsd : (p || ng) = true → ∃ t, s.extract 1 s.size = t ∧ t.data.toList = D ∧ t.size ≤ s.size := fun h => by
        have hD := HDD.out
        rw [h, if_pos rfl] at hD
        refine ⟨_, rfl, ?_, ?_⟩
        · rw [Lib.extract_data, ← hD, List.take_of_length_le (by rw [List.length_drop, ← HL.out]; exact Nat.le_refl _)]
        · rw [Lib.size_eq, Lib.extract_data, List.length_take]; omega
      cases hpc : p with
      | true =>
        subst hpc
        obtain ⟨t, ht, htd, hts⟩ := hsd rfl
        clear hsd
        have HBd := Lib.hid (show (decide (t.size ≠ 0) && t.data.toList.all isDig) = b by rw [Lib.size_eq, htd]; exact SGN.out)
        have HTD := Lib.hid htd
        clear htd
        have I := Lib.hid (isDigits_any t (by omega) b HBd.out W)
        go_wp2_with fail
        refine I.out.mono ?_
        rintro e w1 ⟨rfl, rfl⟩
        clear I
        cases b with
        | false =>
          clear ht
          have q0 := HX.out.c0
          have q1 := HX.out.c1
          have q2 := HX.out.f 0
          have q3 := HX.out.f 1
          have hst := HX.out.stored false none 0 0
          have u0 := hst.c0
          have u1 := hst.c1
          have hbl := Lib.hid (HBW.out.trans ((only_set2 W B (.bool false) (.slice none 0 0)).below (Nat.le_refl _)))
          clear hst
          go_wp2
          refine bodyPost_ret (v := .tuple #[.agg #[.bool false, .slice none 0 0], .int .i64 7]) (by simp [results, Tryd.results7, go_sem, u0, u1]) rfl ?_
          refine ⟨false, none, 0, 0, by rw [← HS2.out]; rfl, by rw [← HS1.out]; exact bn_none _, ?_⟩
          rw [HBe.out]; exact hbl.out
        | true =>
          have hdig : ∀ c ∈ t.data.toList, isDig c = true := by
            have hD := HBd.out
            rw [Bool.and_eq_true] at hD
            exact fun c hc => List.all_eq_true.1 hD.2 c hc
          have HDg := Lib.hid hdig
          have CV := Lib.hid (fun W => value_any t (by omega) HDg.out W)
          clear hdig
          obtain ⟨N, hN⟩ : ∃ N, hornD 0 t.data.toList = N := ⟨_, rfl⟩
          obtain ⟨m, hm⟩ : ∃ m, (limbs N).length = m := ⟨_, rfl⟩
          have hm9 : m ≤ 1000000 := by have h1 := horn_limbs _ HDg.out; rw [hN, hm, ← Lib.size_eq] at h1; omega
          rw [hN] at CV
          have HNN := Lib.hid hN
          have HMM := Lib.hid hm
          clear hN hm
          go_upto_region 8 with fail
          have st : Below W.heap.size W W.drew := (Below.refl _ _).drew
          first | (go_region_with (first
            | (go_at_call 23; (with_reducible refine (CV.out _).mono ?_); rintro e w2 ⟨vv, rfl, ho, hv⟩; have st2 : Below W.heap.size W w2 := Below.trans (by with_reducible assumption) (hv.mono (Below.size (by with_reducible assumption))); have hsl0 := ho.sl (Wf.limbs _) (by rw [HMM.out]; omega); rw [HMM.out] at hsl0; obtain ⟨vo, vc, rfl, hsl⟩ := hsl0; clear ho hv)
            | (go_at_call 22; (with_reducible refine (signed_any _ _ _ _ _ _ hsl).mono ?_); rintro e w3 ⟨so, sc, rfl, hss, hv⟩; have st3 : Below W.heap.size W w3 := Below.trans (by with_reducible assumption) (hv.mono (Below.size (by with_reducible assumption))); clear hv; have HX3 := Lib.hid (HX.out.below st3); have q0 := HX3.out.c0; have q1 := HX3.out.c1; have q2 := HX3.out.f 0; have q3 := HX3.out.f 1))) | fail "no walk"
          all_goals
            have hst := HX3.out.stored (ng && decide (0 < m)) so m sc
            have u0 := hst.c0
            have u1 := hst.c1
            have hbl := Lib.hid ((HBW.out.trans (st3.mono (Nat.le_of_lt HX.out.lt))).trans ((only_set2 w3 B (.bool (ng && decide (0 < m))) (.slice so m sc)).below (Nat.le_refl _)))
            have hbn := Lib.hid (bn_horn ng (fb := (ng && decide (0 < m))) rfl HMM.out (hss.past_box HX3.out (only_set2 w3 B (.bool (ng && decide (0 < m))) (.slice so m sc))))
            clear hst
            go_wp2
            refine bodyPost_ret (v := .tuple #[.agg #[.bool (ng && decide (0 < m)), .slice so m sc], .int .i64 0]) (by simp [results, Tryd.results7, go_sem, u0, u1]) rfl ?_
            refine ⟨(ng && decide (0 < m)), so, m, sc, by rw [← HS2.out]; rfl, ?_, ?_⟩
            · rw [← HS1.out, ← HTD.out, HNN.out]
              exact hbn.out
            · rw [HBe.out]; exact hbl.out
      | false =>
        subst hpc
        cases hnc : ng with
        | true =>
          subst hnc
          obtain ⟨t, ht, htd, hts⟩ := hsd rfl
          clear hsd
          have HBd := Lib.hid (show (decide (t.size ≠ 0) && t.data.toList.all isDig) = b by rw [Lib.size_eq, htd]; exact SGN.out)
          have HTD := Lib.hid htd
          clear htd
          have I := Lib.hid (isDigits_any t (by omega) b HBd.out W)
          go_wp2_with fail
          refine I.out.mono ?_
          rintro e w1 ⟨rfl, rfl⟩
          clear I
          cases b with
          | false =>
            clear ht
            have q0 := HX.out.c0
            have q1 := HX.out.c1
            have q2 := HX.out.f 0
            have q3 := HX.out.f 1
            have hst := HX.out.stored false none 0 0
            have u0 := hst.c0
            have u1 := hst.c1
            have hbl := Lib.hid (HBW.out.trans ((only_set2 W B (.bool false) (.slice none 0 0)).below (Nat.le_refl _)))
            clear hst
            go_wp2
            refine bodyPost_ret (v := .tuple #[.agg #[.bool false, .slice none 0 0], .int .i64 7]) (by simp [results, Tryd.results7, go_sem, u0, u1]) rfl ?_
            refine ⟨false, none, 0, 0, by rw [← HS2.out]; rfl, by rw [← HS1.out]; exact bn_none _, ?_⟩
            rw [HBe.out]; exact hbl.out
          | true =>
            have hdig : ∀ c ∈ t.data.toList, isDig c = true := by
              have hD := HBd.out
              rw [Bool.and_eq_true] at hD
              exact fun c hc => List.all_eq_true.1 hD.2 c hc
            have HDg := Lib.hid hdig
            have CV := Lib.hid (fun W => value_any t (by omega) HDg.out W)
            clear hdig
            obtain ⟨N, hN⟩ : ∃ N, hornD 0 t.data.toList = N := ⟨_, rfl⟩
            obtain ⟨m, hm⟩ : ∃ m, (limbs N).length = m := ⟨_, rfl⟩
            have hm9 : m ≤ 1000000 := by have h1 := horn_limbs _ HDg.out; rw [hN, hm, ← Lib.size_eq] at h1; omega
            rw [hN] at CV
            have HNN := Lib.hid hN
            have HMM := Lib.hid hm
            clear hN hm
            go_upto_region 8 with fail
            have st : Below W.heap.size W W.drew := (Below.refl _ _).drew
            first | (go_region_with (first
              | (go_at_call 23; (with_reducible refine (CV.out _).mono ?_); rintro e w2 ⟨vv, rfl, ho, hv⟩; have st2 : Below W.heap.size W w2 := Below.trans (by with_reducible assumption) (hv.mono (Below.size (by with_reducible assumption))); have hsl0 := ho.sl (Wf.limbs _) (by rw [HMM.out]; omega); rw [HMM.out] at hsl0; obtain ⟨vo, vc, rfl, hsl⟩ := hsl0; clear ho hv)
              | (go_at_call 22; (with_reducible refine (signed_any _ _ _ _ _ _ hsl).mono ?_); rintro e w3 ⟨so, sc, rfl, hss, hv⟩; have st3 : Below W.heap.size W w3 := Below.trans (by with_reducible assumption) (hv.mono (Below.size (by with_reducible assumption))); clear hv; have HX3 := Lib.hid (HX.out.below st3); have q0 := HX3.out.c0; have q1 := HX3.out.c1; have q2 := HX3.out.f 0; have q3 := HX3.out.f 1))) | fail "no walk"
            all_goals
              have hst := HX3.out.stored (decide (0 < m)) so m sc
              have u0 := hst.c0
              have u1 := hst.c1
              have hbl := Lib.hid ((HBW.out.trans (st3.mono (Nat.le_of_lt HX.out.lt))).trans ((only_set2 w3 B (.bool (decide (0 < m))) (.slice so m sc)).below (Nat.le_refl _)))
              have hbn := Lib.hid (bn_horn true (fb := (decide (0 < m))) (by simp) HMM.out (hss.past_box HX3.out (only_set2 w3 B (.bool (decide (0 < m))) (.slice so m sc))))
              clear hst
              go_wp2
              refine bodyPost_ret (v := .tuple #[.agg #[.bool (decide (0 < m)), .slice so m sc], .int .i64 0]) (by simp [results, Tryd.results7, go_sem, u0, u1]) rfl ?_
              refine ⟨(decide (0 < m)), so, m, sc, by rw [← HS2.out]; rfl, ?_, ?_⟩
              · rw [← HS1.out, ← HTD.out, HNN.out]
                exact hbn.out
              · rw [HBe.out]; exact hbl.out
        | false =>
          subst hnc
          clear hsd
          have htd : s.data.toList = D := by have h := HDD.out; rw [if_neg (by decide)] at h; exact h
          have HBd := Lib.hid (show (decide (s.size ≠ 0) && s.data.toList.all isDig) = b by rw [Lib.size_eq, htd]; exact SGN.out)
          have HTD := Lib.hid htd
          clear htd
          have I := Lib.hid (isDigits_any s (by omega) b HBd.out W)
          go_wp2_with fail
          refine I.out.mono ?_
          rintro e w1 ⟨rfl, rfl⟩
          clear I
          cases b with
          | false =>
            have q0 := HX.out.c0
            have q1 := HX.out.c1
            have q2 := HX.out.f 0
            have q3 := HX.out.f 1
            have hst := HX.out.stored false none 0 0
            have u0 := hst.c0
            have u1 := hst.c1
            have hbl := Lib.hid (HBW.out.trans ((only_set2 W B (.bool false) (.slice none 0 0)).below (Nat.le_refl _)))
            clear hst
            go_wp2
            refine bodyPost_ret (v := .tuple #[.agg #[.bool false, .slice none 0 0], .int .i64 7]) (by simp [results, Tryd.results7, go_sem, u0, u1]) rfl ?_
            refine ⟨false, none, 0, 0, by rw [← HS2.out]; rfl, by rw [← HS1.out]; exact bn_none _, ?_⟩
            rw [HBe.out]; exact hbl.out
          | true =>
            have hdig : ∀ c ∈ s.data.toList, isDig c = true := by
              have hD := HBd.out
              rw [Bool.and_eq_true] at hD
              exact fun c hc => List.all_eq_true.1 hD.2 c hc
            have HDg := Lib.hid hdig
            have CV := Lib.hid (fun W => value_any s (by omega) HDg.out W)
            clear hdig
            obtain ⟨N, hN⟩ : ∃ N, hornD 0 s.data.toList = N := ⟨_, rfl⟩
            obtain ⟨m, hm⟩ : ∃ m, (limbs N).length = m := ⟨_, rfl⟩
            have hm9 : m ≤ 1000000 := by have h1 := horn_limbs _ HDg.out; rw [hN, hm, ← Lib.size_eq] at h1; omega
            rw [hN] at CV
            have HNN := Lib.hid hN
            have HMM := Lib.hid hm
            clear hN hm
            go_upto_region 8 with fail
            have st : Below W.heap.size W W.drew := (Below.refl _ _).drew
            first | (go_region_with (first
              | (go_at_call 23; (with_reducible refine (CV.out _).mono ?_); rintro e w2 ⟨vv, rfl, ho, hv⟩; have st2 : Below W.heap.size W w2 := Below.trans (by with_reducible assumption) (hv.mono (Below.size (by with_reducible assumption))); have hsl0 := ho.sl (Wf.limbs _) (by rw [HMM.out]; omega); rw [HMM.out] at hsl0; obtain ⟨vo, vc, rfl, hsl⟩ := hsl0; clear ho hv)
              | (go_at_call 22; (with_reducible refine (signed_any _ _ _ _ _ _ hsl).mono ?_); rintro e w3 ⟨so, sc, rfl, hss, hv⟩; have st3 : Below W.heap.size W w3 := Below.trans (by with_reducible assumption) (hv.mono (Below.size (by with_reducible assumption))); clear hv; have HX3 := Lib.hid (HX.out.below st3); have q0 := HX3.out.c0; have q1 := HX3.out.c1; have q2 := HX3.out.f 0; have q3 := HX3.out.f 1))) | fail "no walk"
            all_goals
              have hst := HX3.out.stored false so m sc
              have u0 := hst.c0
              have u1 := hst.c1
              have hbl := Lib.hid ((HBW.out.trans (st3.mono (Nat.le_of_lt HX.out.lt))).trans ((only_set2 w3 B (.bool false) (.slice so m sc)).below (Nat.le_refl _)))
              have hbn := Lib.hid (bn_horn false (fb := false) rfl HMM.out (hss.past_box HX3.out (only_set2 w3 B (.bool false) (.slice so m sc))))
              clear hst
              go_wp2
              refine bodyPost_ret (v := .tuple #[.agg #[.bool false, .slice so m sc], .int .i64 0]) (by simp [results, Tryd.results7, go_sem, u0, u1]) rfl ?_
              refine ⟨false, so, m, sc, by rw [← HS2.out]; rfl, ?_, ?_⟩
              · rw [← HS1.out, ← HTD.out, HNN.out]
                exact hbn.out
              · rw [HBe.out]; exact hbl.out
end Go.Proofs.YtkomhemjodbkpaaDoor
