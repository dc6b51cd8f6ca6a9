import Derived.Test.YtapcecjbmcoliaaGreatDoorACauU21
namespace Go.Proofs.YtapcecjbmcoliaaGreatDoor
open Go.RowKit

/-- the value v reads as the dyad d, normalized or not -/
def Dg (w : World) (v : Value) (d : Dy) : Prop :=
  ∃ bb nb ao n ca x f, v = .agg #[.bool bb, .bool nb, .slice ao n ca, .int .i64 f] ∧ Bg w nb ao n ca x ∧ -9223372036854775808 ≤ f ∧ f ≤ 9223372036854775807 ∧ d = if bb then none else dmk x f

theorem Dg.ext {w w' : World} {v : Value} {d : Dy} (h : Dg w v d) (he : Ext w w') : Dg w' v d := by
  obtain ⟨bb, nb, ao, n, ca, x, f, h1, h2, h3⟩ := h
  exact ⟨bb, nb, ao, n, ca, x, f, h1, h2.below he, h3⟩

theorem nd_blen {d : Dy} (h : Nd d) : blen (dm d).natAbs ≤ 131072 ∧ -65536 ≤ dx d ∧ dx d ≤ 65536 := by
  cases d with
  | none => simp [dm, dx, blen]
  | some p =>
    obtain ⟨m, e⟩ := p
    show blen m.natAbs ≤ 131072 ∧ -65536 ≤ e ∧ e ≤ 65536
    rcases h with ⟨rfl, rfl⟩ | ⟨h1, h2, h3⟩
    · simp [blen]
    · omega

theorem blen_lt (a : Nat) : a < 2 ^ blen a := by
  by_cases h : a = 0
  · subst h; simp [blen]
  · obtain ⟨l, h1, _, h3⟩ := blen_spec h
    rw [h1]; exact h3

theorem limbs_of_blen {a k : Nat} (h : blen a ≤ 32 * k) : (limbs a).length ≤ k := by
  rw [limbs_len_le]
  exact Nat.lt_of_lt_of_le (blen_lt a) (pow_limbs h)

theorem Dn.dg {w : World} {v : Value} {d : Dy} (h : Dn w v d) : Dg w v d := by
  obtain ⟨h0, nb, ao, n, ca, h1, h2⟩ := h
  obtain ⟨hb, he0, he1⟩ := nd_blen h0
  have hl : n ≤ 4096 := by
    rw [← h2.sl.len]
    exact limbs_of_blen (by omega)
  refine ⟨_, nb, ao, n, ca, _, _, h1, h2.bg (by omega), by omega, by omega, ?_⟩
  cases d with
  | none => rfl
  | some p => exact (dmk_norm h0).symm

set_option maxRecDepth 100000 in
set_option maxHeartbeats 2000000 in
theorem dnormal_any (v : Value) (d : Dy) (w : World) (h : Dg w v d) (hT : Table w) :
    Calls Tryz.prog 21 #[v] w fun e w' => ∃ r, e = .returned r ∧ Dn w' r d ∧ Ext w w' := by
  obtain ⟨bb, nb, ao, n, ca, x, f, rfl, h, hf0, hf1, hd⟩ := h
  have HD := Lib.hid hd; clear hd
  go_enter Tryz.func21, Tryz.ntmps21
  go_upto_region 1 with fail
  obtain ⟨W, hW, hB, hbx, hrx, hz⟩ := boxes_dd w bb nb ao n ca f
  rw [← hW]
  clear hW
  have h := h.below hB
  have HT := Lib.hid (hT.below hB)
  generalize hBe : w.heap.size = B at *
  have HBe := Lib.hid hBe; clear hBe hT
  have k0 := hbx.c0
  have k1 := hbx.c1
  have k2 := hbx.c2
  have k3 := hbx.c3
  cases bb with
  | true =>
    go_wp2_with fail
    refine (bad_any _).mono ?_
    rintro e w1 ⟨rfl, hw1⟩
    have c1 := hrx.below hw1
    obtain ⟨hB1, hB1'⟩ := bnext hB (by omega) hw1
    have q0 := c1.c0
    have q1 := c1.c1
    have q2 := c1.c2
    have q3 := c1.c3
    have f0 := c1.f 0
    have f1 := c1.f 1
    have f2 := c1.f 2
    have f3 := c1.f 3
    have hres := dn_stored c1 (dn_bad w1) w hB1 (Nat.le_succ B)
    have z3 := c1.stored true false none 0 0 0
    have z0 := z3.c0
    have z1 := z3.c1
    have z2 := z3.c2
    have z4 := z3.c3
    have HRES := Lib.hid hres; clear hres z3
    go_wp2
    refine bodyPost_ret (v := .agg #[.bool true, .bool false, .slice none 0 0, .int .i64 0]) (by simp [results, Tryz.results21, go_sem, z0, z1, z2, z4]) rfl ⟨_, rfl, ?_, ?_⟩
    · rw [HD.out]; exact HRES.out.1
    · show Below _ _ _; rw [HBe.out]; exact HRES.out.2
  | false =>
    go_wp2_with fail
    refine (dreduce_any _ _ _ _ _ _ _ h hf0 hf1 HT.out).mono ?_
    rintro e w1 ⟨r, rfl, hr, hw1⟩
    have c1 := hrx.below hw1
    obtain ⟨hB1, hB1'⟩ := bnext hB (by omega) hw1
    obtain ⟨_, mb, bo, m, cb, rfl, _⟩ := id hr
    generalize (dmk x f).isNone = i at *
    generalize dx (dmk x f) = j at *
    have HR := Lib.hid hr; clear hr
    clear k0 k1 k2 k3
    have q0 := c1.c0
    have q1 := c1.c1
    have q2 := c1.c2
    have q3 := c1.c3
    have f0 := c1.f 0
    have f1 := c1.f 1
    have f2 := c1.f 2
    have f3 := c1.f 3
    have hres := dn_stored c1 HR.out w hB1 (Nat.le_succ B)
    have z3 := c1.stored i mb bo m cb j
    have z0 := z3.c0
    have z1 := z3.c1
    have z2 := z3.c2
    have z4 := z3.c3
    have HRES := Lib.hid hres; clear hres z3
    go_wp2
    refine bodyPost_ret (v := .agg #[.bool i, .bool mb, .slice bo m cb, .int .i64 j]) (by simp [results, Tryz.results21, go_sem, z0, z1, z2, z4]) rfl ⟨_, rfl, ?_, ?_⟩
    · rw [HD.out]; exact HRES.out.1
    · show Below _ _ _; rw [HBe.out]; exact HRES.out.2

set_option maxRecDepth 100000 in
set_option maxHeartbeats 2000000 in
theorem dmake_any (nb : Bool) (ao : Option Addr) (n ca : Nat) (x f : Int) (w : World) (h : Bg w nb ao n ca x) (hf0 : -9223372036854775808 ≤ f) (hf1 : f ≤ 9223372036854775807) (hT : Table w) :
    Calls Tryz.prog 116 #[.agg #[.bool nb, .slice ao n ca], .int .i64 f] w fun e w' => ∃ v, e = .returned v ∧ Dn w' v (dmk x f) ∧ Ext w w' := by
  go_enter Tryz.func116, Tryz.ntmps116
  go_upto_region 1 with fail
  obtain ⟨W, hW, hB, hbx, hrx, hz⟩ := boxes_bd w nb ao n ca
  rw [← hW]
  clear hW
  have h := h.below hB
  have HT := Lib.hid (hT.below hB)
  generalize hBe : w.heap.size = B at *
  have HBe := Lib.hid hBe; clear hBe hT
  have k0 := hbx.c0
  have k1 := hbx.c1
  go_wp2_with fail
  refine (dreduce_any _ _ _ _ _ _ _ h hf0 hf1 HT.out).mono ?_
  rintro e w1 ⟨r, rfl, hr, hw1⟩
  have c1 := hrx.below hw1
  obtain ⟨hB1, hB1'⟩ := bnext hB (by omega) hw1
  obtain ⟨hnd, mb, bo, m, cb, rfl, hbn⟩ := hr
  have hbs : m ≤ 4096 := by
    rw [← hbn.sl.len]
    exact limbs_of_blen (by have := nd_blen hnd; omega)
  generalize hi : (dmk x f).isNone = i at *
  generalize hj : dx (dmk x f) = j at *
  clear k0 k1 hbx hrx
  go_upto_region 2 with fail
  obtain ⟨V, hV, hv, e1, hz2⟩ := dbox_new w1 i mb bo m cb j
  rw [← hV]
  clear hV
  have c2 := c1.below hv
  have hbn := hbn.below hv
  obtain ⟨hB2, hB2'⟩ := bnext hB1 (by omega) hv
  have hg := c1.lt
  have hw1s := hw1.size
  clear c1 hw1 hv
  generalize w1.heap.size = D at *
  have k0 := e1.c0
  have k1 := e1.c1
  have k2 := e1.c2
  have k3 := e1.c3
  go_wp2_with fail
  refine (norm_any _ _ _ _ _ _ (hbn.bg (by omega))).mono ?_
  rintro e w3 ⟨nr, ro, l, cr, rfl, hr, hw3⟩
  have c3 := c2.below hw3
  have e3 := e1.below hw3
  obtain ⟨hB3, hB3'⟩ := bnext hB2 (by omega) hw3
  clear k0 k1 k2 k3 hw3
  have k0 := e3.c0
  have k1 := e3.c1
  have k2 := e3.c2
  have k3 := e3.f 1
  have k4 := e3.f 2
  go_upto_region 3 with fail
  have ho := only_set12 w3 D (.bool nr) (.slice ro l cr)
  have e4 := e3.stored12 nr ro l cr
  have c4 := c3.only ho (by omega)
  have hr4 := hr.only_dbox e3 ho
  have hB4 := hB3.trans (ho.below (B := B) (by omega))
  have hdn : Dn _ (.agg #[.bool i, .bool nr, .slice ro l cr, .int .i64 j]) (dmk x f) := ⟨hnd, nr, ro, l, cr, by rw [hi, hj], hr4⟩
  generalize (w3.setCell ⟨D, 1, none⟩ (.bool nr)).setCell ⟨D, 2, none⟩ (.slice ro l cr) = w4 at *
  have HJ := Lib.hid hj; clear hj
  have HI := Lib.hid hi; clear hi
  clear k0 k1 k2 k3 k4 c3 e3 hr ho
  have k0 := e4.c0
  have k1 := e4.c1
  have k2 := e4.c2
  have k3 := e4.c3
  have q0 := c4.c0
  have q1 := c4.c1
  have q2 := c4.c2
  have q3 := c4.c3
  have f0 := c4.f 0
  have f1 := c4.f 1
  have f2 := c4.f 2
  have f3 := c4.f 3
  have hres := dn_stored c4 hdn w hB4 (Nat.le_succ B)
  have z3 := c4.stored i nr ro l cr j
  have z0 := z3.c0
  have z1 := z3.c1
  have z2 := z3.c2
  have z4 := z3.c3
  have HRES := Lib.hid hres; clear hres z3
  go_wp2
  refine bodyPost_ret (v := .agg #[.bool i, .bool nr, .slice ro l cr, .int .i64 j]) (by simp [results, Tryz.results116, go_sem, z0, z1, z2, z4]) rfl ⟨_, rfl, ?_, ?_⟩
  · exact HRES.out.1
  · show Below _ _ _; rw [HBe.out]; exact HRES.out.2

set_option maxRecDepth 100000 in
set_option maxHeartbeats 2000000 in
theorem dnorm_any (v : Value) (d : Dy) (w : World) (h : Dg w v d) (hT : Table w) :
    Calls Tryz.prog 93 #[v] w fun e w' => ∃ r, e = .returned r ∧ Dn w' r d ∧ Ext w w' := by
  obtain ⟨bb, nb, ao, n, ca, x, f, rfl, h, hf0, hf1, hd⟩ := h
  have HD := Lib.hid hd; clear hd
  go_enter Tryz.func93, Tryz.ntmps93
  go_upto_region 1 with fail
  obtain ⟨W, hW, hB, hbx, hrx, hz⟩ := boxes_dd w bb nb ao n ca f
  rw [← hW]
  clear hW
  have h := h.below hB
  have HT := Lib.hid (hT.below hB)
  generalize hBe : w.heap.size = B at *
  have HBe := Lib.hid hBe; clear hBe hT
  have k0 := hbx.c0
  have k1 := hbx.c1
  have k2 := hbx.c2
  have k3 := hbx.c3
  cases bb with
  | true =>
    go_wp2_with fail
    refine (bad_any _).mono ?_
    rintro e w1 ⟨rfl, hw1⟩
    have c1 := hrx.below hw1
    obtain ⟨hB1, hB1'⟩ := bnext hB (by omega) hw1
    have q0 := c1.c0
    have q1 := c1.c1
    have q2 := c1.c2
    have q3 := c1.c3
    have f0 := c1.f 0
    have f1 := c1.f 1
    have f2 := c1.f 2
    have f3 := c1.f 3
    have hres := dn_stored c1 (dn_bad w1) w hB1 (Nat.le_succ B)
    have z3 := c1.stored true false none 0 0 0
    have z0 := z3.c0
    have z1 := z3.c1
    have z2 := z3.c2
    have z4 := z3.c3
    have HRES := Lib.hid hres; clear hres z3
    go_wp2
    refine bodyPost_ret (v := .agg #[.bool true, .bool false, .slice none 0 0, .int .i64 0]) (by simp [results, Tryz.results93, go_sem, z0, z1, z2, z4]) rfl ⟨_, rfl, ?_, ?_⟩
    · rw [HD.out]; exact HRES.out.1
    · show Below _ _ _; rw [HBe.out]; exact HRES.out.2
  | false =>
    go_wp2_with fail
    refine (dmake_any _ _ _ _ _ _ _ h hf0 hf1 HT.out).mono ?_
    rintro e w1 ⟨r, rfl, hr, hw1⟩
    have c1 := hrx.below hw1
    obtain ⟨hB1, hB1'⟩ := bnext hB (by omega) hw1
    obtain ⟨_, mb, bo, m, cb, rfl, _⟩ := id hr
    generalize (dmk x f).isNone = i at *
    generalize dx (dmk x f) = j at *
    have HR := Lib.hid hr; clear hr
    clear k0 k1 k2 k3
    have q0 := c1.c0
    have q1 := c1.c1
    have q2 := c1.c2
    have q3 := c1.c3
    have f0 := c1.f 0
    have f1 := c1.f 1
    have f2 := c1.f 2
    have f3 := c1.f 3
    have hres := dn_stored c1 HR.out w hB1 (Nat.le_succ B)
    have z3 := c1.stored i mb bo m cb j
    have z0 := z3.c0
    have z1 := z3.c1
    have z2 := z3.c2
    have z4 := z3.c3
    have HRES := Lib.hid hres; clear hres z3
    go_wp2
    refine bodyPost_ret (v := .agg #[.bool i, .bool mb, .slice bo m cb, .int .i64 j]) (by simp [results, Tryz.results93, go_sem, z0, z1, z2, z4]) rfl ⟨_, rfl, ?_, ?_⟩
    · rw [HD.out]; exact HRES.out.1
    · show Below _ _ _; rw [HBe.out]; exact HRES.out.2

end Go.Proofs.YtapcecjbmcoliaaGreatDoor
