/- What accum.checked, Dot and Residual do. -/
import Derived.Test.YtilmighjcjgccaaGreatDoorHh
import Derived.Test.YtilmighjcjgccaaGreatDoorHf
import Derived.Test.YtilmighjcjgccaaGreatDoorGl
namespace Go.Proofs.YtilmighjcjgccaaGreatDoor
open Go Go.RowKit

/-- a total and its error: zero and an error where it is none -/
def chk (d : Dy) : Dy := if d = none then some (0, 0) else d
def chkE (d : Dy) : Int := if d = none then 4 else 0

set_option maxRecDepth 100000 in
set_option maxHeartbeats 4000000 in
theorem checked_any (v : Value) (d : Dy) (w : World) (hv : Dn w v d) :
    Calls Tryz.prog 131 #[v] w fun e w' => ∃ r, e = .returned (.tuple #[r, .int .i64 (chkE d)]) ∧ Dn w' r (chk d) ∧ Ext w w' := by
  obtain ⟨ub, un, uo, uk, uc, uf, rfl⟩ := hv.parts
  go_enter Tryz.func131, Tryz.ntmps131
  go_upto_region 1 with fail
  obtain ⟨W, hW, hB, hbx, hrx, hz⟩ := boxes_dd w ub un uo uk uc uf
  rw [← hW]
  clear hW
  have hv := hv.ext hB
  generalize hBe : w.heap.size = B at *
  have HBe := Lib.hid hBe; clear hBe
  have k0 := hbx.c0
  have k1 := hbx.c1
  have k2 := hbx.c2
  have k3 := hbx.c3
  have q0 := hrx.c0
  have q1 := hrx.c1
  have q2 := hrx.c2
  have q3 := hrx.c3
  have f0 := hrx.f 0
  have f1 := hrx.f 1
  have f2 := hrx.f 2
  have f3 := hrx.f 3
  obtain ⟨g1, -, -⟩ := hv.get
  cases d with
  | none =>
    obtain rfl : ub = true := g1
    have hres := dn_stored hrx (dn_zero W) w hB (Nat.le_succ B)
    have z3 := hrx.stored false false none 0 0 0
    have z0 := z3.c0
    have z1 := z3.c1
    have z2 := z3.c2
    have z4 := z3.c3
    have HRES := Lib.hid hres; clear hres z3
    go_wp2
    refine bodyPost_ret (v := .tuple #[.agg #[.bool false, .bool false, .slice none 0 0, .int .i64 0], .int .i64 4]) (by simp [results, Tryz.results131, go_sem, z0, z1, z2, z4]) rfl ⟨_, rfl, HRES.out.1, ?_⟩
    show Below _ _ _; rw [HBe.out]; exact HRES.out.2
  | some q =>
    obtain rfl : ub = false := g1
    have hres := dn_stored hrx hv w hB (Nat.le_succ B)
    have z3 := hrx.stored false un uo uk uc uf
    have z0 := z3.c0
    have z1 := z3.c1
    have z2 := z3.c2
    have z4 := z3.c3
    have HRES := Lib.hid hres; clear hres z3
    go_wp2
    refine bodyPost_ret (v := .tuple #[.agg #[.bool false, .bool un, .slice uo uk uc, .int .i64 uf], .int .i64 0]) (by simp [results, Tryz.results131, go_sem, z0, z1, z2, z4]) rfl ⟨_, rfl, HRES.out.1, ?_⟩
    show Below _ _ _; rw [HBe.out]; exact HRES.out.2

/-- the products of the elements with the same index -/
def prods (x y : List Nat) : List Dy := List.zipWith (fun a b => dmul (fdy a) (fdy b)) x y
theorem prods_getD {x y : List Nat} {j : Nat} (hx : j < x.length) (hy : j < y.length) : (prods x y).getD j none = dmul (fdy (x.getD j 0)) (fdy (y.getD j 0)) := by
  unfold prods
  simp [List.getD, List.getElem?_zipWith, hx, hy]

set_option maxRecDepth 100000 in
set_option maxHeartbeats 8000000 in
theorem adot_any (ao bo : Option Addr) (n cap cb : Nat) (x y : List Nat) (w : World) (h : Fs w ao n cap x) (h' : Fs w bo n cb y) (hT : Table w) (hT6 : Table64 w) (hn : n ≤ 1000000) :
    Calls Tryz.prog 67 #[.slice ao n cap, .slice bo n cb] w fun e w' => ∃ r, e = .returned (.tuple #[r, .int .i64 (chkE (dtotal (prods x y)))]) ∧ Dn w' r (chk (dtotal (prods x y))) ∧ Ext w w' := by
  have HL := Lib.hid h.len
  have HL' := Lib.hid h'.len
  have HH := Lib.hid h
  have HH' := Lib.hid h'
  clear h h'
  obtain ⟨D, hD⟩ : ∃ D, prods x y = D := ⟨_, rfl⟩
  have hDl : D.length = n := by rw [← hD]; unfold prods; rw [List.length_zipWith, HL.out, HL'.out, Nat.min_self]
  have HDL := Lib.hid hDl; clear hDl
  rw [hD]
  have HD := Lib.hid hD; clear hD
  go_enter Tryz.func67, Tryz.ntmps67
  go_upto_region 1 with fail
  obtain ⟨W, hW, hB, hbx, hz⟩ := dbox_new w false false none 0 0 0
  rw [← hW]
  clear hW
  have HT := Lib.hid hT; clear hT
  have HT6 := Lib.hid hT6; clear hT6
  generalize hBe : w.heap.size = B at *
  have HBe := Lib.hid hBe
  have HEX : ∀ wx, Below B w wx → Ext w wx := fun wx h => by rw [← hBe] at h; exact h
  have HEX := Lib.hid HEX
  clear hBe
  go_wp2_with (refine wpList_make_dyads _ rfl _ _ rfl _ _ n n rfl rfl rfl rfl (by omega) (by omega) ?_)
  intro w1 hdb hw1 hsz1
  obtain ⟨hE, hE'⟩ := bnext hB (by omega) hw1
  have hbx := hbx.below hw1
  have hgB : B < W.heap.size := by omega
  generalize W.heap.size = g at *
  have htb : Tb w1 g n (List.replicate n DP.zero) 0 D := ⟨hdb, by simp, Nat.zero_le _, fun i hi => absurd hi (Nat.not_lt_zero _)⟩
  clear hB hw1 hz hsz1 hdb
  go_wp2
  go_loopw [7, 8, 20] (fun _ _ ix wr => ∃ (j : Nat) (L : List DP), j ≤ n ∧ ix = .int .i64 j ∧ Tb wr g n L j D ∧ Below B w wr ∧ DBox wr B false false none 0 0 0)
    (fun _ _ ix _ => n - (intOf ix).toNat)
  case atStart => exact ⟨0, _, Nat.zero_le _, rfl, htb, hE, hbx⟩
  case round =>
    obtain ⟨j, L, hj, rfl, htb, hE, hbr⟩ := hrel
    have hgl := htb.db.lt
    have hbl := hbr.lt
    by_cases hlt : j < n
    · have h := HH.out.below (HEX.out _ hE)
      have h' := HH'.out.below (HEX.out _ hE)
      obtain ⟨b, off, rfl, hc⟩ := h.cells (by omega)
      obtain ⟨b', off', rfl, hc'⟩ := h'.cells (by omega)
      have hcj := hc j hlt
      have hcj' := hc' j hlt
      have hfl := h.getD_lt j
      have hfl' := h'.getD_lt j
      have hmap := prods_getD (x := x) (y := y) (j := j) (by rw [HL.out]; exact hlt) (by rw [HL'.out]; exact hlt)
      rw [HD.out] at hmap
      obtain ⟨p, hp⟩ : ∃ p, x.getD j 0 = p := ⟨_, rfl⟩
      obtain ⟨q, hq⟩ : ∃ q, y.getD j 0 = q := ⟨_, rfl⟩
      rw [hp] at hcj hfl hmap
      rw [hq] at hcj' hfl' hmap
      obtain ⟨dp, hdp⟩ : ∃ d, fdy p = d := ⟨_, rfl⟩
      obtain ⟨dq, hdq⟩ : ∃ d, fdy q = d := ⟨_, rfl⟩
      have hsm := fdy_small p
      rw [hdp] at hmap hsm
      rw [hdq] at hmap
      have HM := Lib.hid hmap
      have HDP := Lib.hid hdp
      have HDQ := Lib.hid hdq
      have HSM := Lib.hid hsm
      have HCQ : ∀ wx, Ext wr wx → wx.cell? ⟨b', off' + j, none⟩ = some (.int .u64 (q : Int)) := fun wx hx => by
        rw [hx.cell (p := ⟨b', off' + j, none⟩) (lt_of_cell hcj')]; exact hcj'
      have HCQ := Lib.hid HCQ
      clear hc hc' h h' hp hq hmap hdp hdq hsm
      go_upto_region 7 with fail
      obtain ⟨V, hVe⟩ : ∃ V, V = wr := ⟨_, rfl⟩
      subst hVe
      have e5 : j * 4 = 4 * j := by omega
      have hex : Ext V V.drew := (Below.refl _ _).drew
      have C1 := Lib.hid (fun wx (hx : Ext V wx) => fof_at (f := p) hfl HDP.out wx (HT6.out.below (Ext.trans (HEX.out _ hE) hx)))
      have C2 := Lib.hid (fun wx (hx : Ext V wx) => fof_at (f := q) hfl' HDQ.out wx (HT6.out.below (Ext.trans (HEX.out _ hE) hx)))
      have HTV : ∀ wx, Ext V wx → Table wx := fun wx hx => HT.out.below (Ext.trans (HEX.out _ hE) hx)
      have HTV := Lib.hid HTV
      go_region_with (first
        | (go_at_call 54; (with_reducible refine (C1.out _ (by assumption)).mono ?_); rintro e w1 ⟨v1, rfl, hv1, hw1⟩; have ex1 : Ext V w1 := Ext.trans hex hw1; have cq := HCQ.out w1 ex1)
        | (go_at_call 54; (with_reducible refine (C2.out _ (by assumption)).mono ?_); rintro e w2 ⟨v2, rfl, hv2, hw2⟩; have ex2 : Ext V w2 := Ext.trans ex1 hw2; have hv1 := hv1.ext hw2)
        | (go_at_call 29; refine (dmul_any _ _ _ _ _ hv1.dg hv2.dg (by exact HTV.out _ ex2) (Or.inl HSM.out)).mono ?_; rintro e w3 ⟨v3, rfl, hv3, hw3⟩; have ex3 : Ext V w3 := Ext.trans ex2 hw3; obtain ⟨rb, rn, ro, rk, rc, re, rfl⟩ := hv3.parts; have tb3 := htb.below ex3; obtain ⟨c0, c1, c2, c3⟩ := tb3.db.c j (by rw [tb3.len]; exact hlt); have f0 := tb3.db.f (4 * j); have f1 := tb3.db.f (4 * j + 1); have f2 := tb3.db.f (4 * j + 2); have f3 := tb3.db.f (4 * j + 3)))
      all_goals go_wp2
      all_goals
        have hset := tb3.set (p := ⟨rb, rn, ro, rk, rc, re⟩) (by rw [HM.out]; exact hv3) hlt
        have ho := only_set4' w3 g (4 * j) ⟨rb, rn, ro, rk, rc, re⟩
        have hE3 := (hE.trans (ex3.mono (by omega))).trans (ho.below (B := B) (by omega))
        have hbr3 := (hbr.below ex3).only ho (by omega)
        trace_state
        exact ⟨⟨j + 1, _, by omega, by go_num, hset, hE3, hbr3⟩, by simp [intOf] <;> omega⟩
    · obtain rfl : j = n := by omega
      have hdsl := htb.sl HDL.out
      have C := Lib.hid (dsum_any _ _ _ _ _ wr hdsl (HT.out.below (HEX.out _ hE)) (by omega))
      clear hdsl
      go_wp2_with fail
      refine C.out.mono ?_
      rintro e w4 ⟨v, rfl, hv, hw4⟩
      have hbr := hbr.below hw4
      obtain ⟨hE, hE'⟩ := bnext hE (by omega) hw4
      go_wp2_with fail
      refine (checked_any _ _ _ hv).mono ?_
      rintro e w5 ⟨v, rfl, hv, hw5⟩
      obtain ⟨rb, rn, ro2, rk, rc, re, rfl⟩ := hv.parts
      have bx := hbr.below hw5
      obtain ⟨hE4, hE4'⟩ := bnext hE hE' hw5
      clear hbr hE hw4 hw5 htb
      have q0 := bx.c0
      have q1 := bx.c1
      have q2 := bx.c2
      have q3 := bx.c3
      have f0 := bx.f 0
      have f1 := bx.f 1
      have f2 := bx.f 2
      have f3 := bx.f 3
      have hres := dn_stored bx hv w hE4 (Nat.le_refl B)
      have z3 := bx.stored rb rn ro2 rk rc re
      have z0 := z3.c0
      have z1 := z3.c1
      have z2 := z3.c2
      have z4 := z3.c3
      have HRES := Lib.hid hres; clear hres z3
      go_wp2
      refine bodyPost_ret (v := .tuple #[.agg #[.bool rb, .bool rn, .slice ro2 rk rc, .int .i64 re], .int .i64 _]) (by simp [results, Tryz.results67, go_sem, z0, z1, z2, z4]) rfl ⟨_, rfl, HRES.out.1, ?_⟩
      show Below _ _ _; rw [HBe.out]; exact HRES.out.2
end Go.Proofs.YtilmighjcjgccaaGreatDoor

/- What accum.Residual does, where the inner product is a number. -/
namespace Go.Proofs.YtilmighjcjgccaaGreatDoor
open Go Go.RowKit

set_option maxRecDepth 100000 in
set_option maxHeartbeats 8000000 in
theorem ares_any (f : Nat) (hf : f < 18446744073709551616) (ao bo : Option Addr) (n cap cb : Nat) (x y : List Nat) (w : World) (h : Fs w ao n cap x) (h' : Fs w bo n cb y) (hT : Table w) (hT6 : Table64 w) (hn : n ≤ 1000000) (hd : dtotal (prods x y) ≠ none)
    (df dp d : Dy) (hdf : fdy f = df) (hdp : dtotal (prods x y) = dp) (hdd : dsub df dp = d) :
    Calls Tryz.prog 69 #[.int .u64 (f : Int), .slice ao n cap, .slice bo n cb] w fun e w' => ∃ r, e = .returned (.tuple #[r, .int .i64 (chkE d)]) ∧ Dn w' r (chk d) ∧ Ext w w' := by
  have hok : chkE (dtotal (prods x y)) = 0 := by unfold chkE; rw [if_neg hd]
  have hck : chk (dtotal (prods x y)) = dp := by unfold chk; rw [if_neg hd, hdp]
  have CD := fun W (hE : Ext w W) => adot_any ao bo n cap cb x y W (h.below hE) (h'.below hE) (hT.below hE) (hT6.below hE) hn
  rw [hok, hck] at CD
  have CD := Lib.hid CD
  have CF := Lib.hid (fun W (hE : Ext w W) => fof_at (f := f) hf hdf W (hT6.below hE))
  have HTT := Lib.hid (fun W (hE : Ext w W) => hT.below hE)
  have HDD := Lib.hid hdd
  clear hok hck hd hdp hdf h h' hT hT6 hdd
  go_enter Tryz.func69, Tryz.ntmps69
  go_upto_region 1 with fail
  obtain ⟨W, hW, hB, hbx, hz⟩ := dbox_new w false false none 0 0 0
  rw [← hW]
  clear hW
  generalize hBe : w.heap.size = B at *
  have HBe := Lib.hid hBe
  have HEX : ∀ wx, Below B w wx → Ext w wx := fun wx h => by rw [← hBe] at h; exact h
  have HEX := Lib.hid HEX
  clear hBe
  go_wp2_with fail
  refine (CD.out _ (HEX.out _ hB)).mono ?_
  rintro e w1 ⟨r1, rfl, hr1, hw1⟩
  obtain ⟨xb, xn, xo, xk, xc, xe, rfl⟩ := hr1.parts
  obtain ⟨hE, hE'⟩ := bnext hB (by omega) hw1
  have hbr := hbx.below hw1
  clear hbx hB hz hw1
  go_upto_region 2 with fail
  obtain ⟨V, hV, hVB, hvx, hvz⟩ := dbox_new w1 xb xn xo xk xc xe
  rw [← hV]
  clear hV
  have hr1 := hr1.ext hVB
  have hbr := hbr.below hVB
  obtain ⟨hE, hE'⟩ := bnext hE hE' hVB
  clear hVB
  generalize w1.heap.size = C at *
  have k0 := hvx.c0
  have k1 := hvx.c1
  have k2 := hvx.c2
  have k3 := hvx.c3
  have q0 := hbr.c0
  have q1 := hbr.c1
  have q2 := hbr.c2
  have q3 := hbr.c3
  have hex : Ext V V.drew := (Below.refl _ _).drew
  have HV0 := Lib.hid (HEX.out _ hE)
  have C1 := Lib.hid (fun wx (hx : Ext V wx) => CF.out wx (Ext.trans HV0.out hx))
  have HTV := Lib.hid (fun wx (hx : Ext V wx) => HTT.out wx (Ext.trans HV0.out hx))
  have HC : ∀ wx, Ext V wx → wx.cell? ⟨C, 0, none⟩ = some (.bool xb) ∧ wx.cell? ⟨C, 1, none⟩ = some (.bool xn) ∧ wx.cell? ⟨C, 2, none⟩ = some (.slice xo xk xc) ∧ wx.cell? ⟨C, 3, none⟩ = some (.int .i64 xe) := fun wx h => ⟨(hvx.ext h).c0, (hvx.ext h).c1, (hvx.ext h).c2, (hvx.ext h).c3⟩
  have HC := Lib.hid HC
  go_upto_region 4 with fail
  go_region_with (first
    | (go_at_call 54; (with_reducible refine (C1.out _ (by assumption)).mono ?_); rintro e w2 ⟨v1, rfl, hv1, hw2⟩; have ex1 : Ext V w2 := Ext.trans hex hw2; obtain ⟨a0, a1, a2, a3⟩ := HC.out w2 ex1)
    | (go_at_call 27; refine (dsub_any _ _ _ _ _ hv1.dg (hr1.ext ex1).dg (by exact HTV.out _ ex1)).mono ?_; rintro e w3 ⟨v3, rfl, hv3, hw3⟩; have ex2 : Ext V w3 := Ext.trans ex1 hw3; rw [HDD.out] at hv3)
    | (go_at_call 131; refine (checked_any _ _ _ hv3).mono ?_; rintro e w4 ⟨v4, rfl, hv4, hw4⟩; have ex3 : Ext V w4 := Ext.trans ex2 hw4; obtain ⟨rb, rn, ro, rk, rc, re, rfl⟩ := hv4.parts; have bx := hbr.ext ex3; have p0 := bx.c0; have p1 := bx.c1; have p2 := bx.c2; have p3 := bx.c3; have f0 := bx.f 0; have f1 := bx.f 1; have f2 := bx.f 2; have f3 := bx.f 3))
  all_goals
    have hres := dn_stored bx hv4 w (bnext hE (by omega) ex3).1 (Nat.le_refl B)
    have z3 := bx.stored rb rn ro rk rc re
    have z0 := z3.c0
    have z1 := z3.c1
    have z2 := z3.c2
    have z4 := z3.c3
    have HRES := Lib.hid hres; clear hres z3
    go_wp2
    refine bodyPost_ret (v := .tuple #[.agg #[.bool rb, .bool rn, .slice ro rk rc, .int .i64 re], .int .i64 (chkE d)]) (by simp [results, Tryz.results69, go_sem, z0, z1, z2, z4]) rfl ⟨_, rfl, HRES.out.1, ?_⟩
    show Below _ _ _; rw [HBe.out]; exact HRES.out.2
end Go.Proofs.YtilmighjcjgccaaGreatDoor

/- Lists of floats that a call makes for itself by appending; what the reference's Finite does. -/
namespace Go.Proofs.YtilmighjcjgccaaGreatDoor
open Go Go.RowKit

theorem Tryz.infoFloat : (Tryz.prog.info? 45).map (fun i => (i.zero, i.size, i.bytes)) = some (some (.int .u64 0), 1, 8) := by kernel_rfl

/-- the call owns the slice v with these floats -/
def OF (w : World) (B : Nat) (v : Value) (L : List Nat) : Prop := w.ownsRow B 45 1 v L.length (L.map fun (f : Nat) => Value.int .u64 (f : Int))

theorem OF.nil (w : World) (B : Nat) : OF w B (.slice none 0 0) [] := World.ownsRow_nil w B _ _
theorem OF.form {w : World} {B : Nat} {v : Value} {L : List Nat} (h : OF w B v L) (hl : ∀ x ∈ L, x < 18446744073709551616) : ∃ ao cap, v = .slice ao L.length cap ∧ Fs w ao L.length cap L := by
  obtain ⟨h1, h2⟩ := h
  rcases h2 with ⟨rfl, h0⟩ | ⟨g, cap, cur, rfl, hb, hg, hn, hm, hs, ht⟩
  · obtain rfl := List.eq_nil_of_length_eq_zero h0
    exact ⟨none, 0, rfl, Fs.nil w none 0⟩
  · refine ⟨_, cap, rfl, rfl, hn, hl, fun _ => ⟨g, 0, rfl, fun j hj => ?_⟩⟩
    rw [Nat.zero_add, cell_of_row w g j _ _ _ hg]
    have : (cur.toList.take (L.length * 1))[j]? = (L.map fun (f : Nat) => Value.int .u64 (f : Int))[j]? := by rw [ht]
    rw [List.getElem?_take, if_pos (by omega)] at this
    simp only [Array.getElem?_toList] at this
    rw [this]
    simp [List.getD, hj]
theorem OF.below {w w' : World} {B : Nat} {v : Value} {L : List Nat} (h : OF w B v L) (hb : Ext w w') : OF w' B v L := by
  obtain ⟨h1, h2⟩ := h
  refine ⟨h1, ?_⟩
  rcases h2 with h2 | ⟨g, cap, cur, hv, hbb, hg, r⟩
  · exact .inl h2
  · exact .inr ⟨g, cap, cur, hv, hbb, by rw [hb.block g (Array.getElem?_eq_some_iff.1 hg).1]; exact hg, r⟩

theorem wpList_append_float (w0 : World) {ops : Array Oper} {rest : List Oper} {o : Oper} {a : Act} {Q : Exit → Act → World → Prop} (hgd : o.guard = none) (s x : Operand)
    (ho : o.op = .call { callee := .builtin .append, args := #[s, x], argTypes := #[55, 55] })
    (B : Nat) (v : Value) (L : List Nat) (y : Nat) (hs : a.eval s = v) (hx : a.eval x = .slice (some ⟨w0.heap.size, 0, none⟩) 1 1) (hown : OF w0 B v L) (hB : B ≤ w0.heap.size) (hL : L.length ≤ 1000000)
    (h : ∀ v' w', OF w' B v' (L ++ [y]) → Below B w0 w' → wpList Tryz.prog ops Q rest (a.put o.dst v') w') :
    wpList Tryz.prog ops Q (o :: rest) a (w0.alloc (.cells #[.int .u64 (y : Int)] 45)) := by
  obtain ⟨i0, hi, hz0, hz1, hz2⟩ := info_parts Tryz.infoFloat
  refine wpList_append_own _ hgd s x 55 ho B 45 i0 (.int .u64 0) 1 8 Tryz.underlying55 hi hz0 hz1 hz2 rfl (by decide) v L.length _ hs (World.ownsRow.alloc hown _) ⟨w0.heap.size, 0, none⟩ 1 1 [.int .u64 (y : Int)] hx rfl ?_ ?_ (by unfold maxLen; omega) (by omega) (by simp; omega) ?_
  · intro j u hj
    have hn : (w0.alloc (.cells #[.int .u64 (y : Int)] 45)).heap[w0.heap.size]? = some (.cells #[.int .u64 (y : Int)] 45 (0, 0)) := heap_alloc_new w0 _
    rcases j with _ | j
    · rw [Addr.add_lit, Nat.zero_add, cell_of_row _ w0.heap.size 0 _ _ _ hn]; exact hj
    · simp at hj
  · intro u hu; rw [List.mem_singleton] at hu; subst hu; rfl
  · intro v' w' r1 r2 _
    refine h v' w' ?_ ?_
    · unfold OF
      rw [List.length_append, List.map_append]
      exact r1
    · refine ((Below.refl B w0).alloc hB _).grown r2 (by simp; omega) ?_
      intro k hk
      exact (World.ownsRow.lt hown k hk).1

set_option maxRecDepth 100000 in
set_option maxHeartbeats 2000000 in
theorem refFinite_any (ao : Option Addr) (n cap : Nat) (l : List Nat) (w : World) (h : Fs w ao n cap l) (hn : n ≤ 1000000) (b : Bool) (hb : l.all finB = b) :
    Calls Tryz.prog 133 #[.slice ao n cap] w fun e w' => e = .returned (.bool b) ∧ w = w' := by
  have HL := Lib.hid h.len
  have HB := Lib.hid hb
  clear hb
  go_enter Tryz.func133, Tryz.ntmps133
  go_wp2
  go_loopw [3] (fun ix wr => ∃ j : Nat, j ≤ n ∧ ix = .int .i64 j ∧ wr = w ∧ (l.take j).all finB = true) (fun ix _ => n - (intOf ix).toNat)
  case atStart => exact ⟨0, Nat.zero_le _, rfl, rfl, rfl⟩
  case round =>
    obtain ⟨j, hj, rfl, hw, hall⟩ := hrel
    subst hw
    by_cases hlt : j < n
    · obtain ⟨b', off, rfl, hc⟩ := h.cells (by omega)
      have hcj := hc j hlt
      have hfl := h.getD_lt j
      have hnext : (l.take (j + 1)).all finB = (finB (l.getD j 0)) := by
        rw [List.take_succ_eq_append_getElem (by rw [HL.out]; exact hlt), List.all_append, hall]
        simp [List.getD, show j < l.length by rw [HL.out]; exact hlt]
      obtain ⟨x, hx⟩ : ∃ x, l.getD j 0 = x := ⟨_, rfl⟩
      have hmem : x ∈ l := by
        rw [← hx]; simp only [List.getD, List.getElem?_eq_getElem (show j < l.length by rw [HL.out]; exact hlt), Option.getD_some]; exact List.getElem_mem _
      rw [hx] at hcj hfl hnext
      have HN := Lib.hid hnext
      clear hc hx hnext hall
      cases hf : finB x with
      | false =>
        obtain rfl : b = false := by
          rw [← HB.out]
          exact List.all_eq_false.2 ⟨x, hmem, by simp [hf]⟩
        have C := Lib.hid (refFin_any x hfl false hf)
        go_wp2_with fail
        refine (C.out _).mono ?_
        rintro e w1 ⟨rfl, rfl⟩
        go_wp2
        go_ret
        exact ⟨rfl, rfl⟩
      | true =>
        have C := Lib.hid (refFin_any x hfl true hf)
        rw [hf] at HN
        clear hf
        go_wp2_with fail
        refine (C.out _).mono ?_
        rintro e w1 ⟨rfl, rfl⟩
        go_wp2
        go_roundw
        case rel => exact ⟨j + 1, by omega, by go_num, by first | rfl | trivial, HN.out⟩
        case measure => simp [intOf] <;> omega
    · obtain rfl : j = n := by omega
      rw [List.take_of_length_le (by rw [HL.out]; exact Nat.le_refl _)] at hall
      obtain rfl : b = true := by rw [← HB.out]; exact hall
      clear hall
      go_wp2
      go_ret
      exact ⟨rfl, rfl⟩

theorem all_fin {l : List Nat} (h : l.all finB = true) : ∀ f ∈ l, finB f = true := fun f hf => List.all_eq_true.1 h f hf
end Go.Proofs.YtilmighjcjgccaaGreatDoor
