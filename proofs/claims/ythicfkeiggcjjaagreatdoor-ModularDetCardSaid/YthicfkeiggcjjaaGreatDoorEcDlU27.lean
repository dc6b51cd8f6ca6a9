import Derived.Test.YthicfkeiggcjjaaGreatDoorEcDlU26
namespace Go.Proofs.YthicfkeiggcjjaaGreatDoor
open Go Go.RowKit

theorem scale_ok {p : Int} {n c np col : Nat} {M : List (List Int)} (hp : 2 ≤ p) (h : M.length = n) (hr : ∀ i, i < n → (M.getD i []).length = c) (hres : Res p M) (hnp : np < n) :
    (scaleM p np col M).length = n ∧ (∀ i, i < n → ((scaleM p np col M).getD i []).length = c) ∧ Res p (scaleM p np col M) := by
  have b1 : (scaleM p np col M).length = n := by unfold scaleM; rw [List.length_set, h]
  have b2 : ∀ i, i < n → ((scaleM p np col M).getD i []).length = c := fun i hi => by
    rw [scale_at (by omega)]
    split
    · unfold scaleRow; simp only [List.length_map, List.length_range]; exact hr _ hnp
    · exact hr i hi
  refine ⟨b1, b2, res_get fun i hi x hx => ?_⟩
  rw [b1] at hi
  rw [b2 i hi] at hx
  rw [scale_at (by omega)]
  split
  · have e : (scaleRow p (invZ ((M.getD np []).getD col 0) p) (M.getD np [])).getD x 0 = (M.getD np []).getD x 0 * invZ ((M.getD np []).getD col 0) p % p := by
      simp [scaleRow, List.getD, show x < (M[np]?.getD []).length from by have := hr _ hnp; simp only [List.getD] at this; omega]
    rw [e]
    exact ⟨Int.emod_nonneg _ (by omega), Int.emod_lt_of_pos _ (by omega)⟩
  · exact hres.at (by omega) (by rw [hr i hi]; exact hx)
/-- where the rows may lie -/
structure RowsOk (B E e b n c : Nat) (rs : List (Nat × Nat)) : Prop where
  len : rs.length = n
  cap : ∀ i, i < rs.length → c ≤ (rs.getD i (0, 0)).2
  lo : ∀ i, i < rs.length → B ≤ (rs.getD i (0, 0)).1
  hi : ∀ i, i < rs.length → (rs.getD i (0, 0)).1 < E
  ne : ∀ i, i < rs.length → (rs.getD i (0, 0)).1 ≠ e
theorem RowsOk.swap {B E e b n c : Nat} {rs : List (Nat × Nat)} (h : RowsOk B E e b n c rs) {i j : Nat} (hi : i < n) (hj : j < n) : RowsOk B E e b n c (swapL rs i j (0, 0)) := by
  have hl := h.len
  have key : ∀ k, k < (swapL rs i j (0, 0)).length → ∃ l, l < rs.length ∧ (swapL rs i j (0, 0)).getD k (0, 0) = rs.getD l (0, 0) := fun k hk => by
    rw [swap_len, hl] at hk
    exact ⟨swI i j k, by rw [hl]; exact swI_lt hi hj hk, swap_get (0, 0) (by omega) (by omega) k⟩
  refine ⟨by rw [swap_len, hl], fun k hk => ?_, fun k hk => ?_, fun k hk => ?_, fun k hk => ?_⟩
  all_goals
    obtain ⟨l, h1, h2⟩ := key k hk
    rw [h2]
  · exact h.cap l h1
  · exact h.lo l h1
  · exact h.hi l h1
  · exact h.ne l h1
theorem oz_keeps {w w' : World} {B e b E : Nat} {rs : List (Nat × Nat)} {v : Value} {L : List Int} (h : OZ w E v L) (hk : Keeps B e b rs w w') (he : e < E) (hb : b < E) (hr : ∀ i, i < rs.length → (rs.getD i (0, 0)).1 < E) : OZ w' E v L := by
  obtain ⟨h1, h2⟩ := h
  refine ⟨h1, ?_⟩
  rcases h2 with h2 | ⟨g, cap, cur, hv, hbb, hg, r⟩
  · exact .inl h2
  · exact .inr ⟨g, cap, cur, hv, hbb, by rw [hk.rest g (by omega) (by omega) (fun i hi => by have := hr i hi; omega)]; exact hg, r⟩
theorem Keeps.blk {w w' : World} {B e b k : Nat} {rs : List (Nat × Nat)} {vs : Array Value} {t : TypeId} (h : Keeps B e b rs w w') (hv : VBlk w k vs t) (h1 : k ≠ e) (h2 : k ≠ b) (h3 : ∀ i, i < rs.length → (rs.getD i (0, 0)).1 ≠ k) : VBlk w' k vs t := by
  unfold VBlk; rw [h.rest k h1 h2 h3]; exact hv
theorem VBlk.low {w w' : World} {N k : Nat} {vs : Array Value} {t : TypeId} (hv : VBlk w k vs t) (h : Below N w w') (hk : k < N) : VBlk w' k vs t := by
  unfold VBlk; rw [h.block k hk]; exact hv
theorem Mat.low {w w' : World} {b c N : Nat} {rs : List (Nat × Nat)} {M : List (List Int)} (h : Mat w b rs c M) (ho : Below N w w') (hb : b < N) (hr : ∀ i, i < rs.length → (rs.getD i (0, 0)).1 < N) : Mat w' b rs c M :=
  ⟨SlB.low h.rows ho hb, h.len, fun i hi => ⟨by obtain ⟨r, hv⟩ := (h.row i hi).1; exact ⟨r, hv.low ho (hr i hi)⟩, (h.row i hi).2⟩, h.ne, h.nb⟩
theorem OZ.only' {w w' : World} {B k : Nat} {v : Value} {L : List Int} (h : OZ w B v L) (ho : Only k w w') (hk : k < B) : OZ w' B v L := by
  obtain ⟨h1, h2⟩ := h
  refine ⟨h1, ?_⟩
  rcases h2 with h2 | ⟨g, cap, cur, hv, hbb, hg, r⟩
  · exact .inl h2
  · exact .inr ⟨g, cap, cur, hv, hbb, by rw [ho.block g (by omega)]; exact hg, r⟩
theorem OZ.slE {w : World} {B : Nat} {v : Value} {L : List Int} (h : OZ w B v L) : ∃ ao cap, v = .slice ao L.length cap := by
  by_cases h0 : L = []
  · subst h0
    obtain ⟨h1, h2⟩ := h
    rcases h2 with ⟨rfl, _⟩ | ⟨g, cap, cur, rfl, _⟩
    · exact ⟨none, 0, rfl⟩
    · exact ⟨_, cap, rfl⟩
  · obtain ⟨ao, cap, e, _⟩ := h.ns h0
    exact ⟨ao, cap, e⟩
theorem step_none {p : Int} {col : Nat} {S : Ech} (h : findR S.M col (S.M.length - S.L.length) S.L.length = S.M.length) : stepE p col S = S := by
  unfold stepE; simp only; rw [if_pos h]
theorem step_some {p : Int} {col R : Nat} {S : Ech} (hR : findR S.M col (S.M.length - S.L.length) S.L.length = R) (h : ¬ R = S.M.length) : stepE p col S = ⟨clearM p S.L.length col (scaleM p S.L.length col (swapL S.M S.L.length R [])), S.L ++ [(col : Int)], (if R = S.L.length then S.f else -S.f % p) * ((swapL S.M S.L.length R []).getD S.L.length []).getD col 0 % p⟩ := by
  unfold stepE; simp only; rw [hR, if_neg h]
theorem reduce_go {p : Int} {C j : Nat} {S : Ech} (h : j < C) : reduceE p (C - j) j S = reduceE p (C - (j + 1)) (j + 1) (stepE p j S) := by
  rw [show C - j = (C - (j + 1)) + 1 by omega]; rfl

set_option maxRecDepth 100000 in
set_option maxHeartbeats 8000000 in
theorem echReduce_any (b cn c C B n : Nat) (p : Int) (rs : List (Nat × Nat)) (M : List (List Int)) (SF : Ech) (w : World) (hM : Mat w b rs c M) (hok : EOk p n c ⟨M, [], 1⟩) (hrs : rs.length = n) (hC : C ≤ c) (hcn : n ≤ cn) (hcap : ∀ i, i < rs.length → c ≤ (rs.getD i (0, 0)).2)
    (hp : 2 ≤ p) (hp2 : p ≤ 2147483647) (hB : ∀ i, i < rs.length → B ≤ (rs.getD i (0, 0)).1) (hbB : B ≤ b) (hBw : B ≤ w.heap.size) (hn6 : n ≤ 1000000) (hc6 : c ≤ 1000000) (hSF : reduceE p C 0 ⟨M, [], 1⟩ = SF) :
    Calls Tryz.prog 33 #[.slice (some ⟨b, 0, none⟩) n cn, .int .i64 C, .int .i64 p] w fun r w' => ∃ rs' qo qk qc, r = .returned (.agg #[.int .i64 p, .slice (some ⟨b, 0, none⟩) n cn, .slice qo qk qc, .int .i64 SF.f]) ∧ Mat w' b rs' c SF.M ∧ rs'.length = n ∧ OZ w' (w.heap.size + 2) (.slice qo qk qc) SF.L ∧ Below B w w' := by
  go_enter Tryz.func33, Tryz.ntmps33
  go_upto_region 2 with fail
  have hbl := hM.rows.lt
  have hrl : ∀ i, i < rs.length → (rs.getD i (0, 0)).1 < w.heap.size := fun i hi => (hM.row i hi).1.lt
  obtain ⟨f, hf⟩ : ∃ f, w.heap.size = f := ⟨_, rfl⟩
  obtain ⟨e, he⟩ : ∃ e, f + 1 = e := ⟨_, rfl⟩
  have n1 := VBlk.new w #[.int .i64 0, .slice none 0 0, .slice none 0 0, .int .i64 0] 59
  have n2 : VBlk ((w.alloc (.cells #[.int .i64 0, .slice none 0 0, .slice none 0 0, .int .i64 0] 59)).alloc (.cells #[.int .i64 p, .slice (some ⟨b, 0, none⟩) n cn, .slice none 0 0, .int .i64 1] 59)) (w.heap.size + 1) #[.int .i64 p, .slice (some ⟨b, 0, none⟩) n cn, .slice none 0 0, .int .i64 1] 59 := by
    have := VBlk.new (w.alloc (.cells #[.int .i64 0, .slice none 0 0, .slice none 0 0, .int .i64 0] 59)) #[.int .i64 p, .slice (some ⟨b, 0, none⟩) n cn, .slice none 0 0, .int .i64 1] 59
    simpa using this
  have n1 := n1.below ((Below.refl _ _).alloc (Nat.le_refl _) (.cells #[.int .i64 p, .slice (some ⟨b, 0, none⟩) n cn, .slice none 0 0, .int .i64 1] 59))
  have hE : Ext w ((w.alloc (.cells #[.int .i64 0, .slice none 0 0, .slice none 0 0, .int .i64 0] 59)).alloc (.cells #[.int .i64 p, .slice (some ⟨b, 0, none⟩) n cn, .slice none 0 0, .int .i64 1] 59)) := ((Below.refl _ w).alloc (Nat.le_refl _) _).alloc (by simp) _
  have hM := hM.below hE
  have HB := Lib.hid (hE.mono hBw)
  have hsz : ((w.alloc (.cells #[.int .i64 0, .slice none 0 0, .slice none 0 0, .int .i64 0] 59)).alloc (.cells #[.int .i64 p, .slice (some ⟨b, 0, none⟩) n cn, .slice none 0 0, .int .i64 1] 59)).heap.size = e + 1 := by simp [← he, ← hf]
  rw [hf] at n1 n2 hbl hrl hBw
  rw [he] at n2
  have HOZ := Lib.hid (OZ.nil ((w.alloc (.cells #[.int .i64 0, .slice none 0 0, .slice none 0 0, .int .i64 0] 59)).alloc (.cells #[.int .i64 p, .slice (some ⟨b, 0, none⟩) n cn, .slice none 0 0, .int .i64 1] 59)) (e + 1))
  simp only [hf, he]
  generalize hVE : ((w.alloc (.cells #[.int .i64 0, .slice none 0 0, .slice none 0 0, .int .i64 0] 59)).alloc (.cells #[.int .i64 p, .slice (some ⟨b, 0, none⟩) n cn, .slice none 0 0, .int .i64 1] 59)) = V at *
  clear hVE hE
  have hbe : e ≠ b := by omega
  have HRO := Lib.hid (show RowsOk B f e b n c rs from ⟨hrs, hcap, hB, fun i hi => by have := hrl i hi; omega, fun i hi => by have := hrl i hi; omega⟩)
  have HLT := Lib.hid (show b < f ∧ f < e ∧ B ≤ f ∧ V.heap.size = e + 1 by omega)
  have HN1 := Lib.hid n1
  have HN2 := Lib.hid n2
  have HMM := Lib.hid hM
  have HOK := Lib.hid hok
  have HSF := Lib.hid hSF
  have HF := Lib.hid (show f = w.heap.size ∧ e = f + 1 from ⟨hf.symm, he.symm⟩)
  clear n1 n2 hM hok hSF hrl hcap hB hrs hbl hf he hsz hBw
  go_wp2
  go_loopw [8, 13] (fun _ iv wr => ∃ (j : Nat) (S : Ech) (rs' : List (Nat × Nat)) (qo : Option Addr) (qc : Nat), j ≤ C ∧ iv = .int .i64 (j : Int) ∧ VBlk wr e #[.int .i64 p, .slice (some ⟨b, 0, none⟩) n cn, .slice qo S.L.length qc, .int .i64 S.f] 59 ∧ VBlk wr f #[.int .i64 0, .slice none 0 0, .slice none 0 0, .int .i64 0] 59 ∧ Mat wr b rs' c S.M ∧ OZ wr (e + 1) (.slice qo S.L.length qc) S.L ∧ Hid (RowsOk B f e b n c rs') ∧ Hid (EOk p n c S) ∧ Hid (reduceE p (C - j) j S = SF) ∧ Hid (e + 1 ≤ wr.heap.size) ∧ Below B w wr)
    (fun _ iv _ => C - (intOf iv).toNat)
  case atStart => exact ⟨0, ⟨M, [], 1⟩, rs, none, 0, Nat.zero_le _, rfl, HN2.out, HN1.out, HMM.out, HOZ.out, HRO, HOK, HSF, Lib.hid (by have := HLT.out; omega), HB.out⟩
  case round =>
    clear HN1 HN2 HMM HOZ HRO HOK HSF HB
    obtain ⟨j, S, rs', qo, qc, hj, rfl, he, hz, hM, hoz, HRO, HOK, HSF, HSZ, hbel⟩ := hrel
    have HBel := Lib.hid hbel
    clear hbel
    by_cases hlt : j < C
    · have hji : (j : Int) < (C : Int) := by omega
      have hl := HRO.out.len
      subst hl
      have hcol : j < c := by omega
      have hml : S.M.length = rs'.length := HOK.out.len
      obtain ⟨R, hR⟩ : ∃ R, findR S.M j (rs'.length - S.L.length) S.L.length = R := ⟨_, rfl⟩
      have hlo := HLT.out
      have CFP := findPivot_any e b cn S.L.length j c B R qo qc p S.f rs' S.M wr he hM HOK.out.pl hcol hcn HRO.out.cap hp hp2 HOK.out.f hbe HRO.out.ne hbB (by omega) hn6 hc6 hR
      have HRR := Lib.hid hR
      have HOZ := Lib.hid hoz
      have HZ := Lib.hid hz
      have HML := Lib.hid hml
      clear he hz hM hoz hR hml
      go_wp2_with fail
      refine CFP.mono ?_
      intro r w1 hFO
      clear CFP
      by_cases hRn : R = rs'.length
      · obtain ⟨rfl, he, hM, hK⟩ := hFO.1 hRn
        have HST := Lib.hid (show stepE p j S = S from step_none (by rw [HML.out, HRR.out, hRn]))
        have HFIN := Lib.hid (And.intro he (And.intro (hK.blk HZ.out (by omega) (by omega) (fun i hi => by have := HRO.out.hi i hi; omega)) (And.intro hM (And.intro (oz_keeps HOZ.out hK (by omega) (by omega) (fun i hi => by have := HRO.out.hi i hi; omega)) (Below.trans HBel.out hK.low)))))
        have HSZ2 := Lib.hid (show e + 1 ≤ w1.heap.size by rw [hK.size]; exact HSZ.out)
        have HSF2 := Lib.hid (show reduceE p (C - (j + 1)) (j + 1) S = SF by rw [← HSF.out, reduce_go hlt, HST.out])
        clear he hM hK hFO hlo
        go_wp2
        go_roundw
        case rel => exact ⟨j + 1, S, rs', qo, qc, by omega, by go_num, HFIN.out.1, HFIN.out.2.1, HFIN.out.2.2.1, HFIN.out.2.2.2.1, HRO, HOK, HSF2, HSZ2, HFIN.out.2.2.2.2⟩
        case measure => simp [intOf]; omega
      · obtain ⟨hR1, hR2, hRv, rfl, he, hM, hK⟩ := hFO.2 hRn
        have hnp : S.L.length < rs'.length := by omega
        have HST := Lib.hid (step_some (p := p) (col := j) (S := S) (R := R) (by rw [HML.out]; exact HRR.out) (by rw [HML.out]; exact hRn))
        have HOK2 := Lib.hid (HOK.out.step (col := j) hp)
        have HRO1 := Lib.hid (HRO.out.swap hnp hR2)
        obtain ⟨a1, a2, a3⟩ := EOk.swap HML.out HOK.out.row HOK.out.res hnp hR2
        have hz1 := hK.blk HZ.out (by omega) (by omega) (fun i hi => by have := HRO.out.hi i hi; omega)
        have hoz1 := oz_keeps HOZ.out hK (by omega) (by omega) (fun i hi => by have := HRO.out.hi i hi; omega)
        have HB1 := Lib.hid (Below.trans HBel.out hK.low)
        have HSZ1 := Lib.hid (show e + 1 ≤ w1.heap.size by rw [hK.size]; exact HSZ.out)
        have hswl := swap_len rs' S.L.length R (0, 0)
        generalize swapL rs' S.L.length R (0, 0) = rs1 at *
        generalize swapL S.M S.L.length R [] = M1 at *
        obtain ⟨f1, hf1⟩ : ∃ f1, (if R = S.L.length then S.f else -S.f % p) = f1 := ⟨_, rfl⟩
        have hfb : 0 ≤ f1 ∧ f1 < p := by
          rw [← hf1]
          split
          · exact HOK.out.f
          · exact ⟨Int.emod_nonneg _ (by omega), Int.emod_lt_of_pos _ (by omega)⟩
        rw [hf1] at he
        rw [hf1] at HST
        clear hK hFO HOZ HZ HBel HSZ hf1 HRR HML
        have hro1 := HRO1.out
        have CSP := scalePivot_any e b cn S.L.length j c B qo qc p f1 rs1 M1 w1 (by rw [hswl]; exact he) hM a3 (by omega) hcol (by omega) hro1.cap hp hp2 hfb hbe hro1.ne hro1.lo (by omega) (by omega) hc6
        clear he hM
        go_wp2_with fail
        refine CSP.mono ?_
        rintro r w2 ⟨⟨u1, rfl⟩, he, hM, hK⟩
        obtain ⟨b1, b2, b3⟩ := scale_ok (col := j) hp a1 a2 a3 hnp
        have hz2 := hK.blk hz1 (by omega) (by omega) (fun i hi => by have := hro1.hi i hi; omega)
        have hoz2 := oz_keeps hoz1 hK (by omega) (by omega) (fun i hi => by have := hro1.hi i hi; omega)
        have HB2 := Lib.hid (Below.trans HB1.out hK.low)
        have HSZ2 := Lib.hid (show e + 1 ≤ w2.heap.size by rw [hK.size]; exact HSZ1.out)
        obtain ⟨v, hv⟩ : ∃ v, f1 * (M1.getD S.L.length []).getD j 0 % p = v := ⟨_, rfl⟩
        rw [hv] at he HST
        generalize scaleM p S.L.length j M1 = M2 at *
        clear hK CSP hz1 hoz1 HB1 HSZ1 hv a1 a2 a3
        have CCC := clearColumn_any e b cn S.L.length j c B qo qc p v rs1 M2 w2 he hM b3 (by omega) hcol (by omega) hro1.cap hp hp2 hbe hro1.ne hro1.lo (by omega) hc6
        clear he hM
        go_wp2_with fail
        refine CCC.mono ?_
        rintro r w3 ⟨⟨u2, rfl⟩, he, hM, hK⟩
        have hz3 := hK.blk hz2 (by omega) (by omega) (fun i hi => by have := hro1.hi i hi; omega)
        have hoz3 := oz_keeps hoz2 hK (by omega) (by omega) (fun i hi => by have := hro1.hi i hi; omega)
        have HB3 := Lib.hid (Below.trans HB2.out hK.low)
        have HSZ3 := Lib.hid (show e + 1 ≤ w3.heap.size by rw [hK.size]; exact HSZ2.out)
        generalize clearM p S.L.length j M2 = M3 at *
        clear hK CCC hz2 hoz2 HB2 HSZ2 b1 b2 b3
        rw [hswl] at he
        have e2 := he.c 2
        have f2 := he.f 2
        have HE := Lib.hid he
        have HM := Lib.hid hM
        have HZ := Lib.hid hz3
        have HOZ := Lib.hid hoz3
        have hLL : S.L.length ≤ 1000000 := by omega
        clear he hM hz3 hoz3
        go_wp2_with (first | (at_builtin; refine wpList_append_z w3 rfl (.tmp 23) (.tmp 25) rfl (e + 1) _ S.L (j : Int) rfl rfl HOZ.out HSZ3.out hLL ?_; intro v' w9 hown9 hB9; obtain ⟨qo9, qc9, rfl⟩ := hown9.slE; have he9 : VBlk w9 e _ 59 := HE.out.low hB9 (Nat.lt_succ_self e); have z2 := he9.c 2; have y2 := he9.f 2) | go_in)
        have hll : (S.L ++ [(j : Int)]).length = S.L.length + 1 := by simp
        have o9 := only_set1 w9 e 2 (.slice qo9 (S.L.length + 1) qc9)
        have HE9 := Lib.hid (show VBlk (w9.setCell ⟨e, 2, none⟩ (.slice qo9 (S.L.length + 1) qc9)) e #[.int .i64 p, .slice (some ⟨b, 0, none⟩) rs'.length cn, .slice qo9 (S.L ++ [(j : Int)]).length qc9, .int .i64 v] 59 from by rw [hll]; exact he9.set 2 (.slice qo9 (S.L.length + 1) qc9))
        have HM9 := Lib.hid ((HM.out.low hB9 (by omega) (fun i hi => by have := hro1.hi i hi; omega)).only o9 (Ne.symm hbe) (fun i hi => hro1.ne i hi))
        have HZ9 := Lib.hid ((HZ.out.low hB9 (by omega)).only o9 (by omega))
        have HOZ9 := Lib.hid (hown9.only' o9 (Nat.lt_succ_self e))
        have HB9 := Lib.hid (Below.trans (Below.trans HB3.out (hB9.mono (by omega))) (o9.below (B := B) (by omega)))
        have HSZ9 := Lib.hid (show e + 1 ≤ (w9.setCell ⟨e, 2, none⟩ (.slice qo9 (S.L.length + 1) qc9)).heap.size by rw [o9.size]; exact (by have := Below.size hB9; have := HSZ3.out; omega))
        have HSF2 := Lib.hid (show reduceE p (C - (j + 1)) (j + 1) ⟨M3, S.L ++ [(j : Int)], v⟩ = SF by rw [← HSF.out, reduce_go hlt, HST.out])
        have HOK3 := Lib.hid (show EOk p rs'.length c ⟨M3, S.L ++ [(j : Int)], v⟩ by rw [← HST.out]; exact HOK2.out)
        clear he9 o9 hown9 hB9 hll
        go_wp2
        go_roundw
        case rel => exact ⟨j + 1, ⟨M3, S.L ++ [(j : Int)], v⟩, rs1, qo9, qc9, by omega, by go_num, HE9.out, HZ9.out, HM9.out, HOZ9.out, HRO1, HOK3, HSF2, HSZ9, HB9.out⟩
        case measure => simp [intOf]; omega
    · obtain rfl : C = j := by omega
      have hsf := HSF.out
      rw [Nat.sub_self] at hsf
      obtain rfl : S = SF := hsf
      have g0 := he.c 0
      have g1 := he.c 1
      have g2 := he.c 2
      have g3 := he.c 3
      have x0 := hz.c 0
      have x1 := hz.c 1
      have x2 := hz.c 2
      have x3 := hz.c 3
      have f0 := hz.f 0
      have f1 := hz.f 1
      have f2 := hz.f 2
      have f3 := hz.f 3
      have m4 := (((hz.set 0 (.int .i64 p)).set 1 (.slice (some ⟨b, 0, none⟩) n cn)).set 2 (.slice qo S.L.length qc)).set 3 (.int .i64 S.f)
      have y0 := m4.c 0
      have y1 := m4.c 1
      have y2 := m4.c 2
      have y3 := m4.c 3
      have o4 : Only f wr ((((wr.setCell ⟨f, 0, none⟩ (.int .i64 p)).setCell ⟨f, 1, none⟩ (.slice (some ⟨b, 0, none⟩) n cn)).setCell ⟨f, 2, none⟩ (.slice qo S.L.length qc)).setCell ⟨f, 3, none⟩ (.int .i64 S.f)) := ((((Only.refl f wr).setCell _ _).setCell _ _).setCell _ _).setCell _ _
      have hlo := HLT.out
      have HFIN := Lib.hid (And.intro (hM.only o4 (by omega) (fun i hi => by have := HRO.out.hi i hi; omega)) (And.intro HRO.out.len (And.intro (show OZ _ (w.heap.size + 2) _ S.L from by rw [show w.heap.size + 2 = e + 1 by have := HF.out; omega]; exact hoz.only' o4 (by omega)) (Below.trans HBel.out (o4.below (show B ≤ f by omega))))))
      clear m4 o4 he hz hM hoz hlo HSF
      go_wp2
      refine bodyPost_ret (v := .agg #[.int .i64 p, .slice (some ⟨b, 0, none⟩) n cn, .slice qo S.L.length qc, .int .i64 S.f]) (by simp [results, Tryz.results33, go_sem, y0, y1, y2, y3]) rfl ⟨rs', qo, S.L.length, qc, rfl, HFIN.out.1, HFIN.out.2.1, HFIN.out.2.2.1, HFIN.out.2.2.2⟩
end Go.Proofs.YthicfkeiggcjjaaGreatDoor
