import Derived.Test.YtapcecjbmcoliaaGreatDoorACauU29
namespace Go.Proofs.YtapcecjbmcoliaaGreatDoor
open Go Go.RowKit

/-- the terms so far: k of them in block g -/
structure Terms (wr : World) (g n : Nat) (lt : List DP) (T : List (Int × Int)) : Prop where
  db : DB wr g lt
  len : lt.length = n
  fit : T.length ≤ n
  dn : ∀ i, i < T.length → Dn wr (lt.getD i DP.zero).v (some (T.getD i (0, 0)))

theorem Terms.below {w w' : World} {g n : Nat} {lt : List DP} {T : List (Int × Int)} (h : Terms w g n lt T) (hb : Ext w w') : Terms w' g n lt T :=
  ⟨h.db.below hb, h.len, h.fit, fun i hi => (h.dn i hi).ext hb⟩
theorem Terms.only_dbox {w w' : World} {g n B : Nat} {bb nb : Bool} {ao : Option Addr} {k ca : Nat} {f : Int} {lt : List DP} {T : List (Int × Int)} (h : Terms w g n lt T) (hx : DBox w B bb nb ao k ca f) (ho : Only B w w') (hne : g ≠ B) : Terms w' g n lt T :=
  ⟨h.db.only ho hne, h.len, h.fit, fun i hi => (h.dn i hi).only_dbox hx ho⟩
theorem Terms.push {w : World} {g n : Nat} {lt : List DP} {T : List (Int × Int)} (h : Terms w g n lt T) {p : DP} {t : Int × Int} (hp : Dn w p.v (some t)) (hn : T.length < n) :
    Terms (set4 w g (4 * T.length) p) g n (lt.set T.length p) (T ++ [t]) := by
  have ho := only_set4' w g (4 * T.length) p
  refine ⟨h.db.set _ _, by simp [h.len], by simp; omega, fun i hi => ?_⟩
  rw [List.length_append, List.length_singleton] at hi
  by_cases hlt : i < T.length
  · have e1 : (lt.set T.length p).getD i DP.zero = lt.getD i DP.zero := by
      simp [List.getD, show T.length ≠ i by omega]
    have e2 : (T ++ [t]).getD i (0, 0) = T.getD i (0, 0) := by simp [List.getD, List.getElem?_append_left hlt]
    rw [e1, e2]
    exact (h.dn i hlt).only_db h.db ho
  · obtain rfl : i = T.length := by omega
    have e1 : (lt.set T.length p).getD T.length DP.zero = p := by
      have := h.len
      simp [List.getD, show T.length < lt.length by omega]
    have e2 : (T ++ [t]).getD T.length (0, 0) = t := by simp [List.getD]
    rw [e1, e2]
    exact hp.only_db h.db ho

theorem dg_nd {w : World} {v : Value} {d : Dy} (h : Dg w v d) : Nd d := by
  obtain ⟨bb, _, _, _, _, x, f, _, _, _, _, hd⟩ := h
  subst hd
  cases bb
  · exact dmk_nd x f
  · trivial

theorem mem_take_succ {D : List Dy} {j : Nat} (hj : j < D.length) : D.take (j + 1) = D.take j ++ [D.getD j none] := by
  rw [List.take_succ_eq_append_getElem hj]
  simp [List.getD, hj]

set_option maxRecDepth 100000 in
set_option maxHeartbeats 4000000 in
theorem dsum_any (ao : Option Addr) (n cap : Nat) (l : List DP) (D : List Dy) (w : World) (h : DSl w ao n cap l D) (hT : Table w) (hn : n ≤ 1000000) :
    Calls Tryz.prog 20 #[.slice ao n cap] w fun e w' => ∃ v, e = .returned v ∧ Dn w' v (dtotal D) ∧ Ext w w' := by
  have hDl := h.lenD
  have HDL := Lib.hid hDl
  have HH := Lib.hid h
  have hndall : ∀ d ∈ D, Nd d := by
    intro d hd
    obtain ⟨i, hi, rfl⟩ := List.getElem_of_mem hd
    have := dg_nd (h.reads i (by omega))
    simpa [List.getD, hi] using this
  have HND := Lib.hid hndall
  clear hDl h hndall
  go_enter Tryz.func20, Tryz.ntmps20
  go_upto_region 1 with fail
  obtain ⟨W, hW, hB, hbx, hz⟩ := dbox_new w false false none 0 0 0
  rw [← hW]
  clear hW
  have HT := Lib.hid hT; clear hT
  generalize hBe : w.heap.size = B at *
  have HBe := Lib.hid hBe
  have HEX : ∀ wx, Below B w wx → Ext w wx := fun wx h => by rw [← hBe] at h; exact h
  have HEX := Lib.hid HEX
  clear hBe
  go_wp2_with (refine wpList_make_dyads _ rfl _ _ rfl _ _ 0 n rfl rfl rfl rfl (by omega) (by omega) ?_)
  intro w1 hdb hw1 hsz1
  obtain ⟨hE, hE'⟩ := bnext hB (by omega) hw1
  have hbx := hbx.below hw1
  have hgB : B < W.heap.size := by omega
  generalize W.heap.size = g at *
  have hgs : g < w1.heap.size := hdb.lt
  clear hB hw1 hz hsz1
  go_wp2
  go_loopw [3, 5, 11] (fun tv _ ix wr => ∃ (j : Nat) (T : List (Int × Int)) (lt : List DP), j ≤ n ∧ ix = .int .i64 j ∧ tv = .slice (some ⟨g, 0, none⟩) T.length n ∧ T = keptT (D.take j) ∧ none ∉ D.take j ∧ Terms wr g n lt T ∧ Below B w wr ∧ DBox wr B false false none 0 0 0)
    (fun _ _ ix _ => n - (intOf ix).toNat)
  case atStart => exact ⟨0, [], _, Nat.zero_le _, rfl, rfl, rfl, by simp, ⟨hdb, by simp, Nat.zero_le _, fun i hi => absurd hi (Nat.not_lt_zero _)⟩, hE, hbx⟩
  case round =>
    obtain ⟨j, T, lt, hj, rfl, rfl, hTk, hno, hterm, hE, hbr⟩ := hrel
    have hgl := hterm.db.lt
    have hTl : T.length ≤ j := by
      rw [hTk]
      refine Nat.le_trans (keptT_len _) ?_
      rw [List.length_take]; omega
    by_cases hlt : j < n
    · have h := HH.out.below (HEX.out _ hE)
      obtain ⟨b, off, bb, nb, bo, m, cb, ee, rfl, c0, c1, c2, c3, hdg⟩ := h.at j hlt
      have hnext := mem_take_succ (D := D) (j := j) (by rw [HDL.out]; exact hlt)
      obtain ⟨d, hd⟩ : ∃ d, D.getD j none = d := ⟨_, rfl⟩
      rw [hd] at hdg hnext
      have HNX := Lib.hid hnext
      have HTK := Lib.hid hTk
      have HNO := Lib.hid hno
      clear hnext hTk hno hd h
      have e4 : off + j * 4 = off + 4 * j := by omega
      have hw9 := hbr.lt
      go_wp2_with fail
      obtain ⟨V, hV, hVB, hvx, hvz⟩ := dbox_new wr bb nb bo m cb ee
      rw [← hV]
      clear hV
      obtain ⟨hEV, hEV'⟩ := bnext hE (by omega) hVB
      have hdg := hdg.ext hVB
      have hterm := hterm.below hVB
      have hbr := hbr.below hVB
      clear c0 c1 c2 c3 hE
      clear hVB
      generalize wr.heap.size = C at *
      refine (dnormal_any _ _ _ hdg (HT.out.below (HEX.out _ hEV))).mono ?_
      rintro e w2 ⟨r, rfl, hr, hw2⟩
      obtain ⟨rb, rn, ro, rk, rc, re, rfl⟩ := hr.parts
      have bx := hvx.below hw2
      have hterm := hterm.below hw2
      have hbr := hbr.below hw2
      obtain ⟨hE2, hE2'⟩ := bnext hEV hEV' hw2
      have hCs := bx.lt
      clear hvx hEV hEV' hdg hvz hw2
      have f0 := bx.f 0
      have f1 := bx.f 1
      have f2 := bx.f 2
      have f3 := bx.f 3
      have k0 := bx.c0
      have k1 := bx.c1
      have k2 := bx.c2
      have k3 := bx.c3
      go_upto_region 6 with fail
      have ho := only_set4 w2 C (.bool rb) (.bool rn) (.slice ro rk rc) (.int .i64 re)
      have hr := hr.only_dbox bx ho
      have hterm := hterm.only_dbox bx ho (by omega)
      have bx := bx.stored rb rn ro rk rc re
      have hbr := hbr.only ho (by omega)
      have hE3 := hE2.trans (ho.below (B := B) (by omega))
      have hz2 := ho.size
      clear f0 f1 f2 f3 k0 k1 k2 k3 hE2 ho
      generalize (((w2.setCell ⟨C, 0, none⟩ (.bool rb)).setCell ⟨C, 1, none⟩ (.bool rn)).setCell ⟨C, 2, none⟩ (.slice ro rk rc)).setCell ⟨C, 3, none⟩ (.int .i64 re) = w3 at *
      have hE3' : B ≤ w3.heap.size := by omega
      obtain ⟨g1, g2, g3⟩ := hr.get
      have k0 := bx.c0
      have k1 := bx.c1
      have k2 := bx.c2
      have k3 := bx.c3
      cases d with
      | none =>
        obtain rfl : rb = true := g1
        have hdt : dtotal D = none := by
          unfold dtotal
          rw [if_pos]
          have := HNX.out
          have hm : none ∈ D.take (j + 1) := by rw [this]; simp
          exact List.mem_of_mem_take hm
        have HDT := Lib.hid hdt; clear hdt
        go_wp2_with fail
        refine (bad_any _).mono ?_
        rintro e w4 ⟨rfl, hw4⟩
        have bx := hbr.below hw4
        obtain ⟨hE4, hE4'⟩ := bnext hE3 hE3' hw4
        clear k0 k1 k2 k3 hbr
        have q0 := bx.c0
        have q1 := bx.c1
        have q2 := bx.c2
        have q3 := bx.c3
        have f0 := bx.f 0
        have f1 := bx.f 1
        have f2 := bx.f 2
        have f3 := bx.f 3
        have hres := dn_stored bx (dn_bad w4) w hE4 (Nat.le_refl B)
        have z3 := bx.stored true false none 0 0 0
        have z0 := z3.c0
        have z1 := z3.c1
        have z2 := z3.c2
        have z4 := z3.c3
        have HRES := Lib.hid hres; clear hres z3
        go_wp2
        refine bodyPost_ret (v := .agg #[.bool true, .bool false, .slice none 0 0, .int .i64 0]) (by simp [results, Tryz.results20, go_sem, z0, z1, z2, z4]) rfl ⟨_, rfl, ?_, ?_⟩
        · rw [HDT.out]; exact HRES.out.1
        · show Below _ _ _; rw [HBe.out]; exact HRES.out.2
      | some q =>
        obtain ⟨qm, qe⟩ := q
        obtain rfl : rb = false := g1
        obtain rfl : re = qe := g2
        have g3 : Bn w3 rn ro rk rc qm := g3
        have hndq := hr.1
        have hbq := (nd_blen hndq).1
        have hgq := bn_bg_of g3 (by simp only [dm, Option.getD_some] at hbq; omega)
        have hno' : none ∉ D.take (j + 1) := by
          rw [HNX.out]; simp; exact HNO.out
        have HNO2 := Lib.hid hno'
        have hkt : keptT (D.take (j + 1)) = T ++ keptT [some (qm, re)] := by rw [HNX.out, keptT_append, ← HTK.out]
        have HKT := Lib.hid hkt
        clear hno' hkt hbq
        by_cases h0 : qm = 0
        · have hs0 : sgn3 qm 0 = 0 := by simp [sgn3, h0]
          have H0 := Lib.hid h0; clear h0
          go_wp2_with fail
          refine (sign_any _ _ _ _ _ _ hgq).mono ?_
          rintro e w4 ⟨rfl, hw4⟩
          rw [hs0]
          obtain ⟨hE4, hE4'⟩ := bnext hE3 hE3' hw4
          have hterm := hterm.below hw4
          have hbr := hbr.below hw4
          go_wp2
          go_roundw
          case rel => exact ⟨j + 1, T, lt, by omega, by go_num, rfl, by rw [HKT.out, H0.out]; simp [keptT], HNO2.out, hterm, hE4, hbr⟩
          case measure => simp [intOf] <;> omega
        · have hs0 : (sgn3 qm 0 != 0) = true := by
            have : sgn3 qm 0 ≠ 0 := fun h => h0 (sgn3_zero h)
            simpa using this
          have H0 := Lib.hid h0; clear h0
          go_wp2_with fail
          refine (sign_any _ _ _ _ _ _ hgq).mono ?_
          rintro e w4 ⟨rfl, hw4⟩
          obtain ⟨hE4, hE4'⟩ := bnext hE3 hE3' hw4
          have hterm := hterm.below hw4
          have hbr := hbr.below hw4
          have bx := bx.below hw4
          have hr := hr.ext hw4
          clear k0 k1 k2 k3 g3 hgq hE3 hw4
          have k0 := bx.c0
          have k1 := bx.c1
          have k2 := bx.c2
          have k3 := bx.c3
          obtain ⟨V, hV, hVB, hvx, hvz⟩ := dbox_new w4 false rn ro rk rc re
          obtain ⟨hEV, hEV'⟩ := bnext hE4 hE4' hVB
          have htermV := hterm.below hVB
          have hbrV := hbr.below hVB
          have hrV := hr.ext hVB
          have hCV : DB V w4.heap.size [⟨false, rn, ro, rk, rc, re⟩] := hvx
          have hdbV := htermV.db
          have hlenV := htermV.len
          rw [hV] at hCV hdbV
          have HV := Lib.hid hV
          clear hV hVB hvx hvz
          go_wp2_with (at_builtin; refine wpList_append_dyad _ rfl (.tmp 24) (.tmp 26) rfl g T.length n 1 lt ⟨false, rn, ro, rk, rc, re⟩ rfl hdbV hlenV (by omega) w4.heap.size rfl hCV ?_)
          rw [← HV.out]
          have hpush := htermV.push (p := ⟨false, rn, ro, rk, rc, re⟩) (t := (qm, re)) hrV (by omega)
          have ho := only_set4' V g (4 * T.length) ⟨false, rn, ro, rk, rc, re⟩
          have hE5 := hEV.trans (ho.below (B := B) (by omega))
          have hbr5 := hbrV.only ho (by omega)
          have HKT2 : keptT (D.take (j + 1)) = T ++ [(qm, re)] := by rw [HKT.out]; simp [keptT, H0.out]
          have HKT2 := Lib.hid HKT2
          go_wp2
          go_roundw
          case rel => exact ⟨j + 1, T ++ [(qm, re)], _, by omega, by go_num, by simp, HKT2.out.symm, HNO2.out, hpush, hE5, hbr5⟩
          case measure => simp [intOf] <;> omega
    · obtain rfl : j = n := by omega
      have hlt0 : D.take j = D := List.take_of_length_le (by rw [HDL.out]; exact Nat.le_refl _)
      rw [hlt0] at hTk hno
      have hts := scs_kept hno
      rw [← hTk] at hts
      have hdt : dtotal D = dmk (scs (T.map some)) (-65536) := by unfold dtotal; rw [if_neg hno, hts]
      have HDT := Lib.hid hdt
      have hdsl : DSl wr (some ⟨g, 0, none⟩) T.length j (lt.take T.length) (T.map some) := hterm.db.sl (by rw [hterm.len]; exact hterm.fit) (by simp) hterm.fit (fun i hi => by
        have := (hterm.dn i hi).dg
        have e : (T.map some).getD i none = some (T.getD i (0, 0)) := by simp [List.getD, hi]
        rw [e]; exact this)
      have hok : ∀ t ∈ T, TermOk t := by rw [hTk]; exact keptT_ok HND.out
      have hdn : ∀ i, i < T.length → Dn wr ((lt.take T.length).getD i DP.zero).v ((T.map some).getD i none) := fun i hi => by
        have e : (T.map some).getD i none = some (T.getD i (0, 0)) := by simp [List.getD, hi]
        have e2 : (lt.take T.length).getD i DP.zero = lt.getD i DP.zero := by simp [List.getD, hi]
        rw [e, e2]; exact hterm.dn i hi
      have C := Lib.hid (total_any _ _ _ _ _ _ wr hdsl rfl hok hdn (HT.out.below (HEX.out _ hE)) (by omega))
      have hz9 := hbr.lt
      clear hdsl hok hdn hdt hts hno hTk hlt0 hlt
      go_wp2_with fail
      refine C.out.mono ?_
      rintro e w4 ⟨v, rfl, hv, hw4⟩
      rw [← HDT.out] at hv
      obtain ⟨rb, rn, ro2, rk, rc, re, rfl⟩ := hv.parts
      have bx := hbr.below hw4
      obtain ⟨hE4, hE4'⟩ := bnext hE (by omega) hw4
      clear hbr hE hw4 hterm
      have q0 := bx.c0
      have q1 := bx.c1
      have q2 := bx.c2
      have q3 := bx.c3
      have f0 := bx.f 0
      have f1 := bx.f 1
      have f2 := bx.f 2
      have f3 := bx.f 3
      have hres := dn_stored bx hv w hE4 (Nat.le_refl B)
      have z3 := bx.stored rb rn ro2 rk rc re
      have z0 := z3.c0
      have z1 := z3.c1
      have z2 := z3.c2
      have z4 := z3.c3
      have HRES := Lib.hid hres; clear hres z3
      go_wp2
      refine bodyPost_ret (v := .agg #[.bool rb, .bool rn, .slice ro2 rk rc, .int .i64 re]) (by simp [results, Tryz.results20, go_sem, z0, z1, z2, z4]) rfl ⟨_, rfl, ?_, ?_⟩
      · exact HRES.out.1
      · show Below _ _ _; rw [HBe.out]; exact HRES.out.2
end Go.Proofs.YtapcecjbmcoliaaGreatDoor
