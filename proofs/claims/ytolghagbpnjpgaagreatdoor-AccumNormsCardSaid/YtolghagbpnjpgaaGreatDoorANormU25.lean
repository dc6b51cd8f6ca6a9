import Derived.Test.YtolghagbpnjpgaaGreatDoorANormU24
import Derived.Test.YtolghagbpnjpgaaGreatDoorANormU10
import Derived.Test.YtolghagbpnjpgaaGreatDoorANormU6
import Derived.Test.YtolghagbpnjpgaaGreatDoorANormU11
namespace Go.Proofs.YtolghagbpnjpgaaGreatDoor
open Go Go.RowKit

/-- the terms so far: k of them in block g -/
structure Terms (wr : World) (g n : Nat) (lt : List DP) (T : List (Int × Int)) : Prop where
  db : DB wr g lt
  len : lt.length = n
  fit : T.length ≤ n
  dn : ∀ i, i < T.length → Dn wr (lt.getD i DP.zero).v (some (T.getD i (0, 0)))

theorem Terms.below {w w' : World} {g n : Nat} {lt : List DP} {T : List (Int × Int)} (h : Terms w g n lt T) (hb : Ext w w') : Terms w' g n lt T :=
  ⟨h.db.below hb, h.len, h.fit, fun i hi => (h.dn i hi).ext hb⟩
theorem Terms.only_dbox {w w' : World} {g n B : Nat} {bb nb : Bool} {ao : Option Addr} {k ca : Nat} {f : Int} {lt : List DP} {T : List (Int × Int)} (h : Terms w g n lt T) (hx : DBox w B bb nb ao k ca f) (ho : Only B w w') (hne : g ≠ B) : Terms w' g n lt T :=
  ⟨h.db.only ho hne, h.len, h.fit, fun i hi => (h.dn i hi).only_dbox hx ho⟩
theorem Terms.push {w : World} {g n : Nat} {lt : List DP} {T : List (Int × Int)} (h : Terms w g n lt T) {p : DP} {t : Int × Int} (hp : Dn w p.v (some t)) (hn : T.length < n) :
    Terms (set4 w g (4 * T.length) p) g n (lt.set T.length p) (T ++ [t]) := by
  have ho := only_set4' w g (4 * T.length) p
  refine ⟨h.db.set _ _, by simp [h.len], by simp; omega, fun i hi => ?_⟩
  rw [List.length_append, List.length_singleton] at hi
  by_cases hlt : i < T.length
  · have e1 : (lt.set T.length p).getD i DP.zero = lt.getD i DP.zero := by
      simp [List.getD, show T.length ≠ i by omega]
    have e2 : (T ++ [t]).getD i (0, 0) = T.getD i (0, 0) := by simp [List.getD, List.getElem?_append_left hlt]
    rw [e1, e2]
    exact (h.dn i hlt).only_db h.db ho
  · obtain rfl : i = T.length := by omega
    have e1 : (lt.set T.length p).getD T.length DP.zero = p := by
      have := h.len
      simp [List.getD, show T.length < lt.length by omega]
    have e2 : (T ++ [t]).getD T.length (0, 0) = t := by simp [List.getD]
    rw [e1, e2]
    exact hp.only_db h.db ho

theorem dg_nd {w : World} {v : Value} {d : Dy} (h : Dg w v d) : Nd d := by
  obtain ⟨bb, _, _, _, _, x, f, _, _, _, _, hd⟩ := h
  subst hd
  cases bb
  · exact dmk_nd x f
  · trivial

theorem mem_take_succ {D : List Dy} {j : Nat} (hj : j < D.length) : D.take (j + 1) = D.take j ++ [D.getD j none] := by
  rw [List.take_succ_eq_append_getElem hj]
  simp [List.getD, hj]

set_option maxRecDepth 100000 in
set_option maxHeartbeats 4000000 in
theorem dsum_any (ao : Option Addr) (n cap : Nat) (l : List DP) (D : List Dy) (w : World) (h : DSl w ao n cap l D) (hT : Table w) (hn : n ≤ 1000000) :
    Calls Tryz.prog 170 #[.slice ao n cap] w fun e w' => ∃ v, e = .returned v ∧ Dn w' v (dtotal D) ∧ Ext w w' := by
  have hDl := h.lenD
  have HDL := Lib.hid hDl
  have HH := Lib.hid h
  have hndall : ∀ d ∈ D, Nd d := by
    intro d hd
    obtain ⟨i, hi, rfl⟩ := List.getElem_of_mem hd
    have := dg_nd (h.reads i (by omega))
    simpa [List.getD, hi] using this
  have HND := Lib.hid hndall
  clear hDl h hndall
  go_enter Tryz.func170, Tryz.ntmps170
  go_upto_region 1 with fail
  obtain ⟨W, hW, hB, hbx, hz⟩ := dbox_new w false false none 0 0 0
  rw [← hW]
  clear hW
  have HT := Lib.hid hT; clear hT
  generalize hBe : w.heap.size = B at *
  have HBe := Lib.hid hBe
  have HEX : ∀ wx, Below B w wx → Ext w wx := fun wx h => by rw [← hBe] at h; exact h
  have HEX := Lib.hid HEX
  clear hBe
  go_wp2_with (refine wpList_make_dyads _ rfl _ _ rfl _ _ 0 n rfl rfl rfl rfl (by omega) (by omega) ?_)
  intro w1 hdb hw1 hsz1
  obtain ⟨hE, hE'⟩ := bnext hB (by omega) hw1
  have hbx := hbx.below hw1
  have hgB : B < W.heap.size := by omega
  generalize W.heap.size = g at *
  have hgs : g < w1.heap.size := hdb.lt
  clear hB hw1 hz hsz1
  go_wp2
  go_loopw [3, 5, 11] (fun tv _ ix wr => ∃ (j : Nat) (T : List (Int × Int)) (lt : List DP), j ≤ n ∧ ix = .int .i64 j ∧ tv = .slice (some ⟨g, 0, none⟩) T.length n ∧ T = keptT (D.take j) ∧ none ∉ D.take j ∧ Terms wr g n lt T ∧ Below B w wr ∧ DBox wr B false false none 0 0 0)
    (fun _ _ ix _ => n - (intOf ix).toNat)
  case atStart => exact ⟨0, [], _, Nat.zero_le _, rfl, rfl, rfl, by simp, ⟨hdb, by simp, Nat.zero_le _, fun i hi => absurd hi (Nat.not_lt_zero _)⟩, hE, hbx⟩
  case round =>
    obtain ⟨j, T, lt, hj, rfl, rfl, hTk, hno, hterm, hE, hbr⟩ := hrel
    have hgl := hterm.db.lt
    have hTl : T.length ≤ j := by
      rw [hTk]
      refine Nat.le_trans (keptT_len _) ?_
      rw [List.length_take]; omega
    by_cases hlt : j < n
    · have h := HH.out.below (HEX.out _ hE)
      obtain ⟨b, off, bb, nb, bo, m, cb, ee, rfl, c0, c1, c2, c3, hdg⟩ := h.at j hlt
      have hnext := mem_take_succ (D := D) (j := j) (by rw [HDL.out]; exact hlt)
      obtain ⟨d, hd⟩ : ∃ d, D.getD j none = d := ⟨_, rfl⟩
      rw [hd] at hdg hnext
      have HNX := Lib.hid hnext
      have HTK := Lib.hid hTk
      have HNO := Lib.hid hno
      clear hnext hTk hno hd h
      have e4 : off + j * 4 = off + 4 * j := by omega
      have hw9 := hbr.lt
      go_wp2_with fail
      obtain ⟨V, hV, hVB, hvx, hvz⟩ := dbox_new wr bb nb bo m cb ee
      rw [← hV]
      clear hV
      obtain ⟨hEV, hEV'⟩ := bnext hE (by omega) hVB
      have hdg := hdg.ext hVB
      have hterm := hterm.below hVB
      have hbr := hbr.below hVB
      clear c0 c1 c2 c3 hE
      clear hVB
      generalize wr.heap.size = C at *
      refine (dnormal_any _ _ _ hdg (HT.out.below (HEX.out _ hEV))).mono ?_
      rintro e w2 ⟨r, rfl, hr, hw2⟩
      obtain ⟨rb, rn, ro, rk, rc, re, rfl⟩ := hr.parts
      have bx := hvx.below hw2
      have hterm := hterm.below hw2
      have hbr := hbr.below hw2
      obtain ⟨hE2, hE2'⟩ := bnext hEV hEV' hw2
      have hCs := bx.lt
      clear hvx hEV hEV' hdg hvz hw2
      have f0 := bx.f 0
      have f1 := bx.f 1
      have f2 := bx.f 2
      have f3 := bx.f 3
      have k0 := bx.c0
      have k1 := bx.c1
      have k2 := bx.c2
      have k3 := bx.c3
      go_upto_region 6 with fail
      have ho := only_set4 w2 C (.bool rb) (.bool rn) (.slice ro rk rc) (.int .i64 re)
      have hr := hr.only_dbox bx ho
      have hterm := hterm.only_dbox bx ho (by omega)
      have bx := bx.stored rb rn ro rk rc re
      have hbr := hbr.only ho (by omega)
      have hE3 := hE2.trans (ho.below (B := B) (by omega))
      have hz2 := ho.size
      clear f0 f1 f2 f3 k0 k1 k2 k3 hE2 ho
      generalize (((w2.setCell ⟨C, 0, none⟩ (.bool rb)).setCell ⟨C, 1, none⟩ (.bool rn)).setCell ⟨C, 2, none⟩ (.slice ro rk rc)).setCell ⟨C, 3, none⟩ (.int .i64 re) = w3 at *
      have hE3' : B ≤ w3.heap.size := by omega
      obtain ⟨g1, g2, g3⟩ := hr.get
      have k0 := bx.c0
      have k1 := bx.c1
      have k2 := bx.c2
      have k3 := bx.c3
      cases d with
      | none =>
        obtain rfl : rb = true := g1
        have hdt : dtotal D = none := by
          unfold dtotal
          rw [if_pos]
          have := HNX.out
          have hm : none ∈ D.take (j + 1) := by rw [this]; simp
          exact List.mem_of_mem_take hm
        have HDT := Lib.hid hdt; clear hdt
        go_wp2_with fail
        refine (bad_any _).mono ?_
        rintro e w4 ⟨rfl, hw4⟩
        have bx := hbr.below hw4
        obtain ⟨hE4, hE4'⟩ := bnext hE3 hE3' hw4
        clear k0 k1 k2 k3 hbr
        have q0 := bx.c0
        have q1 := bx.c1
        have q2 := bx.c2
        have q3 := bx.c3
        have f0 := bx.f 0
        have f1 := bx.f 1
        have f2 := bx.f 2
        have f3 := bx.f 3
        have hres := dn_stored bx (dn_bad w4) w hE4 (Nat.le_refl B)
        have z3 := bx.stored true false none 0 0 0
        have z0 := z3.c0
        have z1 := z3.c1
        have z2 := z3.c2
        have z4 := z3.c3
        have HRES := Lib.hid hres; clear hres z3
        go_wp2
        refine bodyPost_ret (v := .agg #[.bool true, .bool false, .slice none 0 0, .int .i64 0]) (by simp [results, Tryz.results170, go_sem, z0, z1, z2, z4]) rfl ⟨_, rfl, ?_, ?_⟩
        · rw [HDT.out]; exact HRES.out.1
        · show Below _ _ _; rw [HBe.out]; exact HRES.out.2
      | some q =>
        obtain ⟨qm, qe⟩ := q
        obtain rfl : rb = false := g1
        obtain rfl : re = qe := g2
        have g3 : Bn w3 rn ro rk rc qm := g3
        have hndq := hr.1
        have hbq := (nd_blen hndq).1
        have hgq := bn_bg_of g3 (by simp only [dm, Option.getD_some] at hbq; omega)
        have hno' : none ∉ D.take (j + 1) := by
          rw [HNX.out]; simp; exact HNO.out
        have HNO2 := Lib.hid hno'
        have hkt : keptT (D.take (j + 1)) = T ++ keptT [some (qm, re)] := by rw [HNX.out, keptT_append, ← HTK.out]
        have HKT := Lib.hid hkt
        clear hno' hkt hbq
        by_cases h0 : qm = 0
        · have hs0 : sgn3 qm 0 = 0 := by simp [sgn3, h0]
          have H0 := Lib.hid h0; clear h0
          go_wp2_with fail
          refine (sign_any _ _ _ _ _ _ hgq).mono ?_
          rintro e w4 ⟨rfl, hw4⟩
          rw [hs0]
          obtain ⟨hE4, hE4'⟩ := bnext hE3 hE3' hw4
          have hterm := hterm.below hw4
          have hbr := hbr.below hw4
          go_wp2
          go_roundw
          case rel => exact ⟨j + 1, T, lt, by omega, by go_num, rfl, by rw [HKT.out, H0.out]; simp [keptT], HNO2.out, hterm, hE4, hbr⟩
          case measure => simp [intOf] <;> omega
        · have hs0 : (sgn3 qm 0 != 0) = true := by
            have : sgn3 qm 0 ≠ 0 := fun h => h0 (sgn3_zero h)
            simpa using this
          have H0 := Lib.hid h0; clear h0
          go_wp2_with fail
          refine (sign_any _ _ _ _ _ _ hgq).mono ?_
          rintro e w4 ⟨rfl, hw4⟩
          obtain ⟨hE4, hE4'⟩ := bnext hE3 hE3' hw4
          have hterm := hterm.below hw4
          have hbr := hbr.below hw4
          have bx := bx.below hw4
          have hr := hr.ext hw4
          clear k0 k1 k2 k3 g3 hgq hE3 hw4
          have k0 := bx.c0
          have k1 := bx.c1
          have k2 := bx.c2
          have k3 := bx.c3
          obtain ⟨V, hV, hVB, hvx, hvz⟩ := dbox_new w4 false rn ro rk rc re
          obtain ⟨hEV, hEV'⟩ := bnext hE4 hE4' hVB
          have htermV := hterm.below hVB
          have hbrV := hbr.below hVB
          have hrV := hr.ext hVB
          have hCV : DB V w4.heap.size [⟨false, rn, ro, rk, rc, re⟩] := hvx
          have hdbV := htermV.db
          have hlenV := htermV.len
          rw [hV] at hCV hdbV
          have HV := Lib.hid hV
          clear hV hVB hvx hvz
          go_wp2_with (at_builtin; refine wpList_append_dyad _ rfl (.tmp 24) (.tmp 26) rfl g T.length n 1 lt ⟨false, rn, ro, rk, rc, re⟩ rfl hdbV hlenV (by omega) w4.heap.size rfl hCV ?_)
          rw [← HV.out]
          have hpush := htermV.push (p := ⟨false, rn, ro, rk, rc, re⟩) (t := (qm, re)) hrV (by omega)
          have ho := only_set4' V g (4 * T.length) ⟨false, rn, ro, rk, rc, re⟩
          have hE5 := hEV.trans (ho.below (B := B) (by omega))
          have hbr5 := hbrV.only ho (by omega)
          have HKT2 : keptT (D.take (j + 1)) = T ++ [(qm, re)] := by rw [HKT.out]; simp [keptT, H0.out]
          have HKT2 := Lib.hid HKT2
          go_wp2
          go_roundw
          case rel => exact ⟨j + 1, T ++ [(qm, re)], _, by omega, by go_num, by simp, HKT2.out.symm, HNO2.out, hpush, hE5, hbr5⟩
          case measure => simp [intOf] <;> omega
    · obtain rfl : j = n := by omega
      have hlt0 : D.take j = D := List.take_of_length_le (by rw [HDL.out]; exact Nat.le_refl _)
      rw [hlt0] at hTk hno
      have hts := scs_kept hno
      rw [← hTk] at hts
      have hdt : dtotal D = dmk (scs (T.map some)) (-65536) := by unfold dtotal; rw [if_neg hno, hts]
      have HDT := Lib.hid hdt
      have hdsl : DSl wr (some ⟨g, 0, none⟩) T.length j (lt.take T.length) (T.map some) := hterm.db.sl (by rw [hterm.len]; exact hterm.fit) (by simp) hterm.fit (fun i hi => by
        have := (hterm.dn i hi).dg
        have e : (T.map some).getD i none = some (T.getD i (0, 0)) := by simp [List.getD, hi]
        rw [e]; exact this)
      have hok : ∀ t ∈ T, TermOk t := by rw [hTk]; exact keptT_ok HND.out
      have hdn : ∀ i, i < T.length → Dn wr ((lt.take T.length).getD i DP.zero).v ((T.map some).getD i none) := fun i hi => by
        have e : (T.map some).getD i none = some (T.getD i (0, 0)) := by simp [List.getD, hi]
        have e2 : (lt.take T.length).getD i DP.zero = lt.getD i DP.zero := by simp [List.getD, hi]
        rw [e, e2]; exact hterm.dn i hi
      have C := Lib.hid (total_any _ _ _ _ _ _ wr hdsl rfl hok hdn (HT.out.below (HEX.out _ hE)) (by omega))
      have hz9 := hbr.lt
      clear hdsl hok hdn hdt hts hno hTk hlt0 hlt
      go_wp2_with fail
      refine C.out.mono ?_
      rintro e w4 ⟨v, rfl, hv, hw4⟩
      rw [← HDT.out] at hv
      obtain ⟨rb, rn, ro2, rk, rc, re, rfl⟩ := hv.parts
      have bx := hbr.below hw4
      obtain ⟨hE4, hE4'⟩ := bnext hE (by omega) hw4
      clear hbr hE hw4 hterm
      have q0 := bx.c0
      have q1 := bx.c1
      have q2 := bx.c2
      have q3 := bx.c3
      have f0 := bx.f 0
      have f1 := bx.f 1
      have f2 := bx.f 2
      have f3 := bx.f 3
      have hres := dn_stored bx hv w hE4 (Nat.le_refl B)
      have z3 := bx.stored rb rn ro2 rk rc re
      have z0 := z3.c0
      have z1 := z3.c1
      have z2 := z3.c2
      have z4 := z3.c3
      have HRES := Lib.hid hres; clear hres z3
      go_wp2
      refine bodyPost_ret (v := .agg #[.bool rb, .bool rn, .slice ro2 rk rc, .int .i64 re]) (by simp [results, Tryz.results170, go_sem, z0, z1, z2, z4]) rfl ⟨_, rfl, ?_, ?_⟩
      · exact HRES.out.1
      · show Below _ _ _; rw [HBe.out]; exact HRES.out.2
end Go.Proofs.YtolghagbpnjpgaaGreatDoor

namespace Go.Proofs.YtolghagbpnjpgaaGreatDoor
open Go.RowKit

theorem lead_down (X r : Nat) : X / 4294967296 ^ r = X / 4294967296 ^ (r + 1) * 4294967296 + X / 4294967296 ^ r % 4294967296 := by
  rw [Nat.pow_succ, ← Nat.div_div_eq_div_mul]
  have := Nat.div_add_mod (X / 4294967296 ^ r) 4294967296
  omega
theorem or_add32 {a b : Nat} (hb : b < 4294967296) (hl : a * 4294967296 + b < 18446744073709551616) : bits BinOp.or IntKind.u64 ((a * 4294967296 : Nat) : Int) (b : Int) = ((a * 4294967296 + b : Nat) : Int) := or_add (a := a) (b := b) (k := 32) hb hl
theorem wrap32 (a : Nat) : IntKind.u64.wrap ((a : Int) * 4294967296) = ((a % 4294967296 * 4294967296 : Nat) : Int) := by rw [IntKind.wrap_u64]; omega
theorem wrap32s {a : Nat} (h : a < 4294967296) : IntKind.u64.wrap ((a : Int) * 4294967296) = ((a * 4294967296 : Nat) : Int) := by rw [IntKind.wrap_u64]; omega
theorem lead_step {hi lo v x : Nat} (hv : hi * 18446744073709551616 + lo = v) (hl : lo < 18446744073709551616) (hh : hi < 4294967296) (hx : x < 4294967296) :
    (hi * 4294967296 + lo / 4294967296) * 18446744073709551616 + (lo * 4294967296 % 18446744073709551616 + x) = v * 4294967296 + x ∧ hi * 4294967296 + lo / 4294967296 < 18446744073709551616 ∧ lo / 4294967296 < 4294967296 ∧ hi * 4294967296 < 18446744073709551616 ∧ lo * 4294967296 % 18446744073709551616 = lo % 4294967296 * 4294967296 ∧ lo % 4294967296 * 4294967296 + x < 18446744073709551616 := by
  omega

theorem lead_odd {X : Nat} (hX : X % 2 = 1) (j : Nat) (hj : j ≠ 0) : X % 2 ^ j ≠ 0 := by
  intro h0
  have h1 := Nat.dvd_of_mod_eq_zero h0
  have h2 : 2 ∣ 2 ^ j := ⟨2 ^ (j - 1), by rw [← Nat.pow_succ']; congr 1; omega⟩
  have := Nat.mod_eq_zero_of_dvd (Nat.dvd_trans h2 h1)
  omega

theorem lead_free {hi : Nat} (h0 : 4294967296 ≤ hi) (h1 : hi < 18446744073709551616) : ∃ k : Nat, k < 32 ∧ 2 ^ (63 - k) ≤ hi ∧ hi < 2 ^ (64 - k) := by
  have hne : hi ≠ 0 := by omega
  have l1 := Nat.log2_self_le hne
  have l2 := @Nat.lt_log2_self hi
  have a1 : Nat.log2 hi < 64 := (Nat.log2_lt hne).2 h1
  have a2 : 32 ≤ Nat.log2 hi := (Nat.le_log2 hne).2 h0
  refine ⟨63 - Nat.log2 hi, by omega, ?_, ?_⟩
  · rw [show 63 - (63 - Nat.log2 hi) = Nat.log2 hi by omega]; exact l1
  · rw [show 64 - (63 - Nat.log2 hi) = Nat.log2 hi + 1 by omega]; exact l2

theorem NBox.stored13 {w : World} {g : Nat} {hi lo e : Int} {t : Bool} (h : NBox w g hi lo e t) (lo' : Int) (t' : Bool) : NBox ((w.setCell ⟨g, 1, none⟩ (.int .u64 lo')).setCell ⟨g, 3, none⟩ (.bool t')) g hi lo' e t' := by
  unfold NBox at h ⊢
  simp [World.setCell, Array.getElem?_modify, h]
theorem only_set13 (w : World) (g : Nat) (u v : Value) : Only g w ((w.setCell ⟨g, 1, none⟩ u).setCell ⟨g, 3, none⟩ v) := ((Only.refl g w).setCell _ _).setCell _ _

/-- the bits behind the first ones -/
theorem lead_tail {X r hi lo k : Nat} (hv : hi * 18446744073709551616 + lo = X / 4294967296 ^ (r + 1)) (hl : lo < 18446744073709551616) (hk : k < 32) (hb : hi < 2 ^ (64 - k)) :
    (hi * 2 ^ k + lo / 2 ^ (64 - k)) * 18446744073709551616 + (lo * 2 ^ k % 18446744073709551616 + X / 4294967296 ^ r % 4294967296 / 2 ^ (32 - k)) = X / 2 ^ (32 * (r + 1) - k) ∧ X / 4294967296 ^ r % 4294967296 / 2 ^ (32 - k) < 2 ^ k ∧ ∃ q, lo * 2 ^ k % 18446744073709551616 = q * 2 ^ k ∧ q * 2 ^ k + X / 4294967296 ^ r % 4294967296 / 2 ^ (32 - k) < 18446744073709551616 := by
  obtain ⟨w1, w2, w3, w4⟩ := norm_words hl (show k ≤ 64 by omega) hb
  have hx : X / 4294967296 ^ r % 4294967296 < 4294967296 := Nat.mod_lt _ (by omega)
  have hd := lead_down X r
  generalize X / 4294967296 ^ r % 4294967296 = x at *
  have hp : 0 < 2 ^ (32 - k) := Nat.pow_pos (by omega)
  have e32 : (4294967296 : Nat) = 2 ^ k * 2 ^ (32 - k) := by rw [← Nat.pow_add, show k + (32 - k) = 32 by omega]
  have hq : x / 2 ^ (32 - k) < 2 ^ k := by rw [Nat.div_lt_iff_lt_mul hp, ← e32]; exact hx
  have e1 : X / 2 ^ (32 * (r + 1) - k) = X / 4294967296 ^ r / 2 ^ (32 - k) := by
    rw [Nat.div_div_eq_div_mul, show (4294967296 : Nat) ^ r = 2 ^ (32 * r) by rw [Nat.pow_mul], ← Nat.pow_add, show 32 * r + (32 - k) = 32 * (r + 1) - k by omega]
  have e2 : (X / 4294967296 ^ (r + 1) * 4294967296 + x) / 2 ^ (32 - k) = X / 4294967296 ^ (r + 1) * 2 ^ k + x / 2 ^ (32 - k) := by
    rw [e32, ← Nat.mul_assoc, Nat.add_comm, Nat.add_mul_div_right _ _ hp, Nat.add_comm]
  have e64 : (18446744073709551616 : Nat) = 2 ^ (64 - k) * 2 ^ k := by rw [← Nat.pow_add, show 64 - k + k = 64 by omega]
  have e3 : lo * 2 ^ k % 18446744073709551616 = lo % 2 ^ (64 - k) * 2 ^ k := by
    rw [e64, Nat.mul_mod_mul_right]
  have e4 : lo % 2 ^ (64 - k) < 2 ^ (64 - k) := Nat.mod_lt _ (Nat.pow_pos (by omega))
  refine ⟨?_, hq, lo % 2 ^ (64 - k), e3, ?_⟩
  · rw [e1, hd, e2, ← Nat.add_assoc, w1, hv]
  · have := Nat.mul_le_mul_right (2 ^ k) (show lo % 2 ^ (64 - k) + 1 ≤ 2 ^ (64 - k) from e4)
    rw [← e64, Nat.add_mul, Nat.one_mul] at this
    omega

set_option maxRecDepth 100000 in
set_option maxHeartbeats 4000000 in
theorem flead_any (ao : Option Addr) (n ca X : Nat) (e : Int) (w : World) (h : Sl w ao n ca (limbs X)) (hX : X % 2 = 1) (hn : n ≤ 100000) (he0 : -100000000 ≤ e) (he1 : e ≤ 100000000) :
    Calls Tryz.prog 84 #[.slice ao n ca, .int .i64 e] w fun r w' => ∃ (H L : Nat) (E : Int) (T : Bool) (j : Nat), r = .returned (.agg #[.int .u64 (H : Int), .int .u64 (L : Int), .int .i64 E, .bool T]) ∧
      H < 18446744073709551616 ∧ L < 18446744073709551616 ∧ H * 18446744073709551616 + L = X / 2 ^ j ∧ H * 18446744073709551616 + L ≠ 0 ∧ E = e + j ∧ T = decide (X % 2 ^ j ≠ 0) ∧ (T = true → 2 ^ 53 ≤ H * 18446744073709551616 + L) ∧ j ≤ 3200000 ∧ Ext w w' := by
  have hlen := h.len
  have hXn : X / 4294967296 ^ n = 0 := by
    refine Nat.div_eq_of_lt ((limbs_len_le X n).1 (by omega))
  have hwf : ∀ r, r < n → (limbs X).getD r 0 = ((X / 4294967296 ^ r % 4294967296 : Nat) : Int) := fun r _ => limbs_at X r
  have hcap := h.cap
  have HS := Lib.hid h
  have HXO := Lib.hid hX
  have HW := Lib.hid hwf
  clear hwf hX
  go_enter Tryz.func84, Tryz.ntmps84
  go_upto_region 2 with fail
  obtain ⟨W, hW, hB, hr, hx, hz⟩ := boxes_nn w 0 0 0 false 0 0 0 false
  rw [← hW]
  clear hW
  have HBB := Lib.hid (show ∀ b off, ao = some ⟨b, off, none⟩ → 0 < n → b < w.heap.size from fun b off e h0 => by
    obtain ⟨b', off', e', hc⟩ := HS.out.cells (by rw [hlen]; exact h0)
    rw [e] at e'
    obtain ⟨rfl, rfl⟩ : b = b' ∧ off = off' := by simpa using e'
    exact lt_of_cell (hc 0 (by rw [hlen]; exact h0)))
  have HSW := Lib.hid (show ∀ wx, Below w.heap.size w wx → Sl wx ao n ca (limbs X) from fun wx hb => HS.out.below hb)
  clear h
  generalize hBe : w.heap.size = B at *
  have HBe := Lib.hid hBe
  clear hBe HS
  go_upto_region 3 with fail
  go_loopw [6] (fun rest wx => ∃ (r hi lo : Nat), rest = .int .i64 (r : Int) ∧ r ≤ n ∧ hi < 18446744073709551616 ∧ lo < 18446744073709551616 ∧ RowKit.Hid (hi * 18446744073709551616 + lo = X / 4294967296 ^ r) ∧ NBox wx (B + 1) (hi : Int) (lo : Int) 0 false ∧ NBox wx B 0 0 0 false ∧ Below B w wx) (fun rest _ => (intOf rest).toNat)
  case atStart => exact ⟨n, 0, 0, rfl, Nat.le_refl _, by omega, by omega, Lib.hid (by rw [hXn]), hx, hr, hB⟩
  case round =>
    clear hx hr hB
    obtain ⟨r, hi, lo, rfl, hrn, hh, hl, HV, hx, hr, hB⟩ := hrel
    have c0 := hx.c0
    have c1 := hx.c1
    have c2 := hx.c2
    have c3 := hx.c3
    have g0 := hx.f 0
    have g1 := hx.f 1
    have g2 := hx.f 2
    have g3 := hx.f 3
    by_cases h0 : 0 < r
    · obtain ⟨m, rfl⟩ : ∃ m, r = m + 1 := ⟨r - 1, by omega⟩
      obtain ⟨b, off, rfl, hc⟩ := (HSW.out wr hB).cells (by rw [hlen]; omega)
      have hcell := hc m (by rw [hlen]; omega)
      rw [HW.out m (by omega)] at hcell
      have hcx : ∀ wx, Below B w wx → wx.cell? ⟨b, off + m, none⟩ = some (.int .u32 ((X / 4294967296 ^ m % 4294967296 : Nat) : Int)) := fun wx hb => by
        obtain ⟨b', off', e', hc'⟩ := (HSW.out wx hb).cells (by rw [hlen]; omega)
        obtain ⟨rfl, rfl⟩ : b = b' ∧ off = off' := by simpa using e'
        rw [← HW.out m (by omega)]
        exact hc' m (by rw [hlen]; omega)
      have hxm : X / 4294967296 ^ m % 4294967296 < 4294967296 := Nat.mod_lt _ (by omega)
      have HD := Lib.hid (lead_down X m)
      have HLT := fun k (hk : k < 32) (hb : hi < 2 ^ (64 - k)) => lead_tail (r := m) HV hl hk hb
      have HXT := Lib.hid (lead_odd (X := X) HXO.out)
      generalize X / 4294967296 ^ m % 4294967296 = x at *
      clear hc
      have hbb0 : b < B := HBB.out b off rfl (by omega)
      have hbb1 : B + 1 ≠ b := by omega
      have hbb2 : b ≠ B + 1 := by omega
      by_cases hs : hi < 4294967296
      · obtain ⟨p1, p2, p3, p4, p5, p6⟩ := lead_step (x := x) rfl hl hs hxm
        have HP1 := Lib.hid p1
        have t0 : ((hi : Int) / 4294967296 == 0) = true := by rw [beq_iff_eq]; omega
        have s1 := wrap32s hs
        have s2 : (lo : Int) / 4294967296 = ((lo / 4294967296 : Nat) : Int) := by omega
        have s3 := or_add32 (a := hi) (b := lo / 4294967296) p3 p2
        have s4 := wrap32 lo
        have s5 := or_add32 (a := lo % 4294967296) (b := x) hxm p6
        clear p1 HLT
        rw [p5] at HP1
        clear p5
        obtain ⟨hi2, hhi2⟩ : ∃ hi2, hi * 4294967296 + lo / 4294967296 = hi2 := ⟨_, rfl⟩
        obtain ⟨lo2, hlo2⟩ : ∃ lo2, lo % 4294967296 * 4294967296 + x = lo2 := ⟨_, rfl⟩
        rw [hhi2] at HP1 s3 p2
        rw [hlo2] at HP1 s5 p6
        obtain ⟨A, hA⟩ : ∃ A, hi * 4294967296 = A := ⟨_, rfl⟩
        obtain ⟨C, hC⟩ : ∃ C, lo % 4294967296 * 4294967296 = C := ⟨_, rfl⟩
        obtain ⟨E, hE⟩ : ∃ E, lo / 4294967296 = E := ⟨_, rfl⟩
        rw [hA] at s1 s3
        rw [hC] at s4 s5
        rw [hE] at s2 s3
        clear hhi2 hlo2 hA hC hE p3 p4
        go_wp2
        go_region
        go_wp2
        go_roundw
        case rel =>
          have ho := only_set2 wr (B + 1) (.int .u64 (hi2 : Int)) (.int .u64 (lo2 : Int))
          exact ⟨m, hi2, lo2, by go_num, by omega, p2, p6, Lib.hid (by rw [HP1.out, HV.out, ← HD.out]), (hx.stored01 hi2 lo2).drew, hr.only ho.drew (by omega), hB.trans (ho.drew.below (B := B) (by omega))⟩
        case measure => simp [intOf]
      · have t0 : ((hi : Int) / 4294967296 == 0) = false := by rw [beq_eq_false_iff_ne]; omega
        obtain ⟨k, hk, hk0, hk1⟩ : ∃ k : Nat, k < 32 ∧ 2 ^ (63 - k) ≤ hi ∧ hi < 2 ^ (64 - k) := lead_free (by omega) hh
        obtain ⟨p1, p2, q, p3, p4⟩ := HLT k hk hk1
        obtain ⟨w1, w2, w3, w4⟩ := norm_words hl (show k ≤ 64 by omega) hk1
        have hge : 18446744073709551616 ≤ (hi * 2 ^ k + lo / 2 ^ (64 - k)) * 18446744073709551616 := by
          have h3 : hi ≤ hi * 2 ^ k := Nat.le_mul_of_pos_right _ (Nat.pow_pos (by omega))
          have h4 : 1 ≤ hi * 2 ^ k + lo / 2 ^ (64 - k) := Nat.le_trans (by omega) (Nat.le_add_right _ _)
          omega
        have CN := Lib.hid (fnormal_hi hi lo k (e + ((m : Int) + 1) * 32) false hk0 hk1 (by omega) hl (by omega) (by omega))
        have CL := Lib.hid (lz_any hk0 hk1 (by omega))
        have s3 := or_add p2 p4
        rw [p3] at p1 CN
        have s1 : (x : Int) / 2 ^ (32 - k) = ((x / 2 ^ (32 - k) : Nat) : Int) := (cast_divpow _ _).symm
        have s2 : (32 - (k : Int)) = ((32 - k : Nat) : Int) := by omega
        have HE := Lib.hid (show e + ((m : Int) + 1) * 32 - (k : Int) = e + ((32 * (m + 1) - k : Nat) : Int) by omega)
        have HP1 := Lib.hid p1
        obtain ⟨Y, hY⟩ : ∃ Y, hi * 2 ^ k + lo / 2 ^ (64 - k) = Y := ⟨_, rfl⟩
        obtain ⟨x2, hx2⟩ : ∃ x2, x / 2 ^ (32 - k) = x2 := ⟨_, rfl⟩
        obtain ⟨Z, hZ⟩ : ∃ Z, q * 2 ^ k = Z := ⟨_, rfl⟩
        rw [hY] at HP1 w2 CN hge
        rw [hx2] at s1 s3 p4 HP1
        rw [hZ] at s3 p4 HP1 CN
        have s6 : IntKind.u64.wrap (x2 : Int) = (x2 : Int) := wrap_nat (by omega)
        obtain ⟨Z2, hZ2⟩ : ∃ Z2, Z + x2 = Z2 := ⟨_, rfl⟩
        rw [hZ2] at s3 HP1 p4
        clear hY hx2 hZ hZ2 p1 p2 p3 w1 w3 w4 HLT hk0 hk1
        have hE0 : -9223372036854775808 ≤ e + ((m : Int) + 1) * 32 := by omega
        have hE2 : e + ((m : Int) + 1) * 32 ≤ 9223372036854775807 := by omega
        obtain ⟨E1, hE1⟩ : ∃ E1 : Int, e + ((m : Int) + 1) * 32 = E1 := ⟨_, rfl⟩
        go_upto_region 8 with fail
        rw [hE1] at CN HE hE0 hE2
        clear hE1
        have x1 := hx.stored2 E1
        have r1 := hr.only (only_set1 wr (B + 1) 2 (.int .i64 E1)) (by omega)
        have b1 := hB.trans ((only_set1 wr (B + 1) 2 (.int .i64 E1)).below (B := B) (by omega))
        generalize wr.setCell ⟨B + 1, 2, none⟩ (.int .i64 E1) = W3 at *
        clear c0 c1 c2 c3 g0 g1 g2 g3 hx hr hB hcell
        have c0 := x1.c0
        have c1 := x1.c1
        have c2 := x1.c2
        have c3 := x1.c3
        have g0 := x1.f 0
        have g1 := x1.f 1
        have g2 := x1.f 2
        have g3 := x1.f 3
        go_wp2_with fail
        refine (CL.out _).mono ?_
        rintro r2 w2 ⟨rfl, rfl⟩
        go_wp2_with fail
        refine (CN.out _).mono ?_
        rintro r2 w4 ⟨rfl, hE4⟩
        have hlt := x1.lt
        have x2 := x1.below hE4
        have r2 := r1.below hE4
        have b2 : Below B w w4 := b1.trans (Below.mono hE4 (by omega))
        clear c0 c1 c2 c3 g0 g1 g2 g3 x1 r1 b1 hE4
        have c0 := x2.c0
        have c1 := x2.c1
        have c2 := x2.c2
        have c3 := x2.c3
        have g0 := x2.f 0
        have g1 := x2.f 1
        have g2 := x2.f 2
        have g3 := x2.f 3
        obtain ⟨E2, hE2'⟩ : ∃ E2 : Int, E1 - (k : Int) = E2 := ⟨_, rfl⟩
        rw [hE2'] at HE
        go_upto_region 11 with fail
        clear hE2'
        have x3 := x2.stored Y Z E2 false
        have ho := only_nset4 w4 (B + 1) (.int .u64 Y) (.int .u64 Z) (.int .i64 E2) (.bool false)
        have r3 := r2.only ho (by omega)
        have b3 := b2.trans (ho.below (B := B) (by omega))
        generalize (((w4.setCell ⟨B + 1, 0, none⟩ (.int .u64 Y)).setCell ⟨B + 1, 1, none⟩ (.int .u64 Z)).setCell ⟨B + 1, 2, none⟩ (.int .i64 E2)).setCell ⟨B + 1, 3, none⟩ (.bool false) = W5 at *
        clear c0 c1 c2 c3 g0 g1 g2 g3 x2 r2 b2 ho
        have hcell := hcx W5 b3
        have c0 := x3.c0
        have c1 := x3.c1
        have c2 := x3.c2
        have c3 := x3.c3
        have g0 := x3.f 0
        have g1 := x3.f 1
        have g2 := x3.f 2
        have g3 := x3.f 3
        go_region
        go_upto_region 13 with fail
        have hh := only_set13 W5 (B + 1) (.int .u64 (Z2 : Int)) (.bool true)
        have x4 := (x3.stored13 (Z2 : Int) true).drew
        have r4 := (r3.only hh (by omega)).drew
        have b4 := (b3.trans (hh.below (B := B) (by omega))).drew
        clear x3 r3 b3 hcell hh
        generalize ((W5.setCell ⟨B + 1, 1, none⟩ (.int .u64 (Z2 : Int))).setCell ⟨B + 1, 3, none⟩ (.bool true)).drew = W6 at *
        clear c0 c1 c2 c3 g0 g1 g2 g3
        have c0 := x4.c0
        have c1 := x4.c1
        have c2 := x4.c2
        have c3 := x4.c3
        have q0 := r4.c0
        have q1 := r4.c1
        have q2 := r4.c2
        have q3 := r4.c3
        have p0 := r4.f 0
        have p1 := r4.f 1
        have p2 := r4.f 2
        have p3 := r4.f 3
        have z := r4.stored (Y : Int) (Z2 : Int) E2 true 
        have z0 := z.c0
        have z1 := z.c1
        have z2 := z.c2
        have z3 := z.c3
        have B4 := Lib.hid (b4.trans ((only_nset4 W6 B (.int .u64 (Y : Int)) (.int .u64 (Z2 : Int)) (.int .i64 E2) (.bool true)).below (B := B) (Nat.le_refl _)))
        clear z x4 r4 b4
        go_wp2
        refine bodyPost_ret (v := .agg #[.int .u64 (Y : Int), .int .u64 (Z2 : Int), .int .i64 E2, .bool true]) (by simp [results, Tryz.results84, go_sem, z0, z1, z2, z3]) rfl ?_
        refine ⟨Y, Z2, E2, true, 32 * (m + 1) - k, rfl, w2, p4, HP1.out, ?_, HE.out, ?_, ?_, by omega, ?_⟩
        · omega
        · exact (decide_eq_true (HXT.out _ (by omega))).symm
        · intro _
          exact Nat.le_trans (by decide) (Nat.le_trans hge (Nat.le_add_right _ _))
        · show Below _ _ _
          rw [HBe.out]
          exact B4.out
    · obtain rfl : r = 0 := by omega
      have hV : hi * 18446744073709551616 + lo = X := by have := HV.out; rwa [Nat.pow_zero, Nat.div_one] at this
      go_upto_region 13 with fail
      have x4 := hx.stored2 e
      have r4 := hr.only (only_set1 wr (B + 1) 2 (.int .i64 e)) (by omega)
      have b4 := hB.trans ((only_set1 wr (B + 1) 2 (.int .i64 e)).below (B := B) (by omega))
      clear hx hr hB
      have HV2 := Lib.hid hV
      clear hV
      generalize wr.setCell ⟨B + 1, 2, none⟩ (.int .i64 e) = W6 at *
      clear c0 c1 c2 c3 g0 g1 g2 g3
      have c0 := x4.c0
      have c1 := x4.c1
      have c2 := x4.c2
      have c3 := x4.c3
      have q0 := r4.c0
      have q1 := r4.c1
      have q2 := r4.c2
      have q3 := r4.c3
      have p0 := r4.f 0
      have p1 := r4.f 1
      have p2 := r4.f 2
      have p3 := r4.f 3
      have z := r4.stored (hi : Int) (lo : Int) e false 
      have z0 := z.c0
      have z1 := z.c1
      have z2 := z.c2
      have z3 := z.c3
      have B4 := Lib.hid (b4.trans ((only_nset4 W6 B (.int .u64 (hi : Int)) (.int .u64 (lo : Int)) (.int .i64 e) (.bool false)).below (B := B) (Nat.le_refl _)))
      clear z x4 r4 b4
      go_wp2
      refine bodyPost_ret (v := .agg #[.int .u64 (hi : Int), .int .u64 (lo : Int), .int .i64 e, .bool false]) (by simp [results, Tryz.results84, go_sem, z0, z1, z2, z3]) rfl ?_
      refine ⟨hi, lo, e, false, 0, rfl, hh, hl, by rw [HV2.out, Nat.pow_zero, Nat.div_one], ?_, by simp, by simp [Nat.mod_one], fun h => by (cases h), by omega, ?_⟩
      · rw [HV2.out]; have := HXO.out; omega
      · show Below _ _ _
        rw [HBe.out]
        exact B4.out
end Go.Proofs.YtolghagbpnjpgaaGreatDoor
