import Derived.Test.YtapcecjbmcoliaaGreatDoorACauU32
import Derived.Test.YtapcecjbmcoliaaGreatDoorACauU33
import Derived.Test.YtapcecjbmcoliaaGreatDoorACauU34
import Derived.Test.YtapcecjbmcoliaaGreatDoorACauU24
import Derived.Deep.CutBlock
import Derived.Test.YtapcecjbmcoliaaGreatDoorACauU27
import Derived.Test.YtapcecjbmcoliaaGreatDoorACauU26
namespace Go.Proofs.YtapcecjbmcoliaaGreatDoor
open Go Go.RowKit

theorem ext_alloc {V w : World} (h : Ext V w) (o : Obj) : Ext V (w.alloc o) := Ext.trans h ((Below.refl _ _).alloc (Nat.le_refl _) _)
theorem dbox_after {w wn : World} {bb nb : Bool} {ao : Option Addr} {n ca : Nat} {f : Int} (h : Ext (w.alloc (.cells #[.bool bb, .bool nb, .slice ao n ca, .int .i64 f] 29)) wn) : DBox wn w.heap.size bb nb ao n ca f :=
  (DBox.new w bb nb ao n ca f).below h
theorem ext_ad (V : World) (o : Obj) : Ext V (V.alloc o).drew := ((Below.refl _ _).alloc (Nat.le_refl _) _).drew
theorem dbox_after2 {w wn : World} {bb nb : Bool} {ao : Option Addr} {n ca : Nat} {f : Int} (h : Ext (w.alloc (.cells #[.bool bb, .bool nb, .slice ao n ca, .int .i64 f] 29)).drew wn) : DBox wn w.heap.size bb nb ao n ca f :=
  DBox.ext (w := (w.alloc (.cells #[.bool bb, .bool nb, .slice ao n ca, .int .i64 f] 29)).drew) (DBox.new w bb nb ao n ca f) h
/-- a dyad stored in a block of the call's own -/
theorem box_stored {W w : World} {g : Nat} {bb nb mbb mb : Bool} {ao bo : Option Addr} {n ca m cb : Nat} {e f : Int} {d : Dy} (hx : DBox w g bb nb ao n ca e) (h : Dn w (.agg #[.bool mbb, .bool mb, .slice bo m cb, .int .i64 f]) d) (hw : Ext W w) (hg : W.heap.size ≤ g) :
    Dn ((((w.setCell ⟨g, 0, none⟩ (.bool mbb)).setCell ⟨g, 1, none⟩ (.bool mb)).setCell ⟨g, 2, none⟩ (.slice bo m cb)).setCell ⟨g, 3, none⟩ (.int .i64 f)) (.agg #[.bool mbb, .bool mb, .slice bo m cb, .int .i64 f]) d ∧
    DBox ((((w.setCell ⟨g, 0, none⟩ (.bool mbb)).setCell ⟨g, 1, none⟩ (.bool mb)).setCell ⟨g, 2, none⟩ (.slice bo m cb)).setCell ⟨g, 3, none⟩ (.int .i64 f)) g mbb mb bo m cb f ∧
    Ext W ((((w.setCell ⟨g, 0, none⟩ (.bool mbb)).setCell ⟨g, 1, none⟩ (.bool mb)).setCell ⟨g, 2, none⟩ (.slice bo m cb)).setCell ⟨g, 3, none⟩ (.int .i64 f)) :=
  ⟨h.only_dbox hx (only_set4 _ _ _ _ _ _), hx.stored _ _ _ _ _ _, Below.trans hw ((only_set4 w g (.bool mbb) (.bool mb) (.slice bo m cb) (.int .i64 f)).below hg)⟩

/-- is the rest of d behind f the number of a float -/
def rest (f : Nat) (d : Dy) : Nat := frdF (dsub d (fdy f)) 0
def restB (f : Nat) (d : Dy) : Bool := decide (dsub d (fdy f) ≠ none) && decide (fdy (rest f d) ≠ none) && decide (sgn3 (sc (fdy (rest f d))) (sc (dsub d (fdy f))) = 0)

set_option maxRecDepth 100000 in
set_option maxHeartbeats 8000000 in
theorem withRest_any (f : Nat) (hf : f < 18446744073709551616) (v : Value) (d : Dy) (w : World) (hv : Dg w v d) (hT : Table w) (hT6 : Table64 w) (t : Nat) (b : Bool) (ht : rest f d = t) (hb : restB f d = b) :
    Calls Tryz.prog 35 #[.int .u64 (f : Int), v] w fun e w' => e = .returned (.tuple (if b then #[.int .u64 (f : Int), .int .u64 (t : Int), .bool true] else #[.int .u64 0, .int .u64 0, .bool false])) ∧ Ext w w' := by
  have htl : t < 18446744073709551616 := by rw [← ht]; exact frdF_lt _ _
  obtain ⟨df, hdf⟩ : ∃ df, fdy f = df := ⟨_, rfl⟩
  obtain ⟨dr, hdr⟩ : ∃ dr, dsub d df = dr := ⟨_, rfl⟩
  obtain ⟨dt, hdt⟩ : ∃ dt, fdy t = dt := ⟨_, rfl⟩
  have hfr : frdF dr 0 = t := by rw [← ht, ← hdr, ← hdf]; rfl
  have hbb : (decide (dr ≠ none) && decide (dt ≠ none) && decide (sgn3 (sc dt) (sc dr) = 0)) = b := by
    rw [← hb]; unfold restB; rw [ht, hdf, hdr, hdt]
  obtain ⟨c, ok, hci⟩ := dcmpIs_any dt dr
  have hcb : (ok && decide (c = 0)) = b := by
    rw [← hbb]
    rcases hci with ⟨h1, h2, h3⟩ | ⟨h1, h2, h3, h4⟩
    · rw [h3]
      rcases h1 with h1 | h1 <;> simp [h1]
    · rw [h4, h3]; simp [h1, h2]
  have CF := Lib.hid (fun W (hE : Ext w W) => fof_at (f := f) hf hdf W (hT6.below hE))
  have CT := Lib.hid (fun W (hE : Ext w W) => fof_at (f := t) htl hdt W (hT6.below hE))
  have HTT := Lib.hid (fun W (hE : Ext w W) => hT.below hE)
  have HDR := Lib.hid hdr
  have HFR := Lib.hid hfr
  have HCI := Lib.hid hci
  have HCB := Lib.hid hcb
  obtain ⟨ub, un, uo, uk, uc, uf, rfl⟩ := Dg.parts hv
  clear ht hb hdf hdr hdt hfr hbb hci hcb hT hT6
  go_enter Tryz.func35, Tryz.ntmps35
  go_upto_region 1 with fail
  obtain ⟨W, hW, hB, hbx, hz⟩ := dbox_new w ub un uo uk uc uf
  rw [← hW]
  clear hW
  have hv := hv.ext hB
  have HB := Lib.hid (show Ext w W from hB)
  clear hB
  generalize w.heap.size = B at *
  have k0 := hbx.c0
  have k1 := hbx.c1
  have k2 := hbx.c2
  have k3 := hbx.c3
  have hex : Ext W W.drew := (Below.refl _ _).drew
  have C1 := Lib.hid (fun wx (hx : Ext W wx) => CF.out wx (Ext.trans HB.out hx))
  have HTV := Lib.hid (fun wx (hx : Ext W wx) => HTT.out wx (Ext.trans HB.out hx))
  have HC : ∀ wx, Ext W wx → wx.cell? ⟨B, 0, none⟩ = some (.bool ub) ∧ wx.cell? ⟨B, 1, none⟩ = some (.bool un) ∧ wx.cell? ⟨B, 2, none⟩ = some (.slice uo uk uc) ∧ wx.cell? ⟨B, 3, none⟩ = some (.int .i64 uf) := fun wx h => ⟨(hbx.ext h).c0, (hbx.ext h).c1, (hbx.ext h).c2, (hbx.ext h).c3⟩
  have HC := Lib.hid HC
  go_cut [7] from 11 (fun p wx => ∃ rb rn ro rk rc re C, p = .pointer (some ⟨C, 0, none⟩) ∧ Dn wx (.agg #[.bool rb, .bool rn, .slice ro rk rc, .int .i64 re]) dr ∧ DBox wx C rb rn ro rk rc re ∧ Ext w wx)
  case first =>
    go_region_held3 (fun wx => wx.cell? ⟨B, 0, none⟩ = some (.bool ub) ∧ wx.cell? ⟨B, 1, none⟩ = some (.bool un) ∧ wx.cell? ⟨B, 2, none⟩ = some (.slice uo uk uc) ∧ wx.cell? ⟨B, 3, none⟩ = some (.int .i64 uf))
      (first | exact HC.out _ (by first | assumption | exact ext_alloc (by assumption) _ | exact ext_ad _ _))
      (first
      | (go_at_call 18; ((with_reducible refine (C1.out _ (by first | assumption | exact ext_alloc (by assumption) _ | exact ext_ad _ _)).mono ?_); rintro e w2 ⟨v1, rfl, hv1, hw2⟩; have ex1 : Ext W w2 := Ext.trans (by first | assumption | exact ext_alloc (by assumption) _ | exact ext_ad _ _) hw2; first | (have bz := dbox_after2 (w := W) hw2; have y0 := bz.c0; have y1 := bz.c1; have y2 := bz.c2; have y3 := bz.c3) | skip))
      | (go_at_call 64; refine (dsub_any _ _ _ _ _ (by exact hv.ext (by first | assumption | exact ext_alloc (by assumption) _ | exact ext_ad _ _)) (by first | exact hv1.dg | exact (hv1.ext (ext_alloc (Ext.refl _) _)).dg) (by exact HTV.out _ (by first | assumption | exact ext_alloc (by assumption) _ | exact ext_ad _ _))).mono ?_; rintro e w3 ⟨v3, rfl, hv3, hw3⟩; have ex2 : Ext W w3 := Ext.trans (by first | assumption | exact ext_alloc (by assumption) _ | exact ext_ad _ _) hw3; rw [HDR.out] at hv3; obtain ⟨rb, rn, ro, rk, rc, re, rfl⟩ := hv3.parts; first | (have bz := dbox_after (w := w2) hw3; have y0 := bz.c0; have y1 := bz.c1; have y2 := bz.c2; have y3 := bz.c3; have g0 := bz.f 0; have g1 := bz.f 1; have g2 := bz.f 2; have g3 := bz.f 3; obtain ⟨st1, st2, st3⟩ := box_stored (W := W) bz hv3 ex2 ex1.size) | (have bz := bz.ext hw3; have y0 := bz.c0; have y1 := bz.c1; have y2 := bz.c2; have y3 := bz.c3; have g0 := bz.f 0; have g1 := bz.f 1; have g2 := bz.f 2; have g3 := bz.f 3; obtain ⟨st1, st2, st3⟩ := box_stored (W := W) bz hv3 ex2 (Nat.le_refl _)) | skip))
    all_goals
      go_wp2
      go_meet
    all_goals
      first
        | exact ⟨rb, rn, ro, rk, rc, re, _, rfl, st1, st2, Ext.trans HB.out st3⟩
        | exact ⟨rb, rn, ro, rk, rc, re, _, rfl, hv3.ext (ext_alloc (Ext.refl _) _), DBox.new _ rb rn ro rk rc re, Ext.trans HB.out (ext_alloc ex2 _)⟩
  case rest =>
    obtain ⟨rb, rn, ro, rk, rc, re, C, rfl, hr, hbr, hE⟩ := hcut
    clear k0 k1 k2 k3 hbx hv C1 HTV HC hz
    have k0 := hbr.c0
    have k1 := hbr.c1
    have k2 := hbr.c2
    have k3 := hbr.c3
    go_wp2_with fail
    refine (frd_at hr.dg (HTT.out _ hE) HFR.out).mono ?_
    rintro e w4 ⟨rfl, hw4⟩
    have hr := hr.ext hw4
    have hbr := hbr.ext hw4
    have hE := Ext.trans hE hw4
    clear k0 k1 k2 k3 hw4
    have k0 := hbr.c0
    have k1 := hbr.c1
    have k2 := hbr.c2
    have k3 := hbr.c3
    have HE := Lib.hid hE
    have hex4 : Ext w4 w4.drew := (Below.refl _ _).drew
    have C1 := Lib.hid (fun wx (hx : Ext w4 wx) => CT.out wx (Ext.trans HE.out hx))
    have HTV := Lib.hid (fun wx (hx : Ext w4 wx) => HTT.out wx (Ext.trans HE.out hx))
    have HC : ∀ wx, Ext w4 wx → wx.cell? ⟨C, 0, none⟩ = some (.bool rb) ∧ wx.cell? ⟨C, 1, none⟩ = some (.bool rn) ∧ wx.cell? ⟨C, 2, none⟩ = some (.slice ro rk rc) ∧ wx.cell? ⟨C, 3, none⟩ = some (.int .i64 re) := fun wx h => ⟨(hbr.ext h).c0, (hbr.ext h).c1, (hbr.ext h).c2, (hbr.ext h).c3⟩
    have HC := Lib.hid HC
    clear hE
    go_upto_region 3 with fail
    go_region_held3 (fun wx => wx.cell? ⟨C, 0, none⟩ = some (.bool rb) ∧ wx.cell? ⟨C, 1, none⟩ = some (.bool rn) ∧ wx.cell? ⟨C, 2, none⟩ = some (.slice ro rk rc) ∧ wx.cell? ⟨C, 3, none⟩ = some (.int .i64 re))
      (first | exact HC.out _ (by assumption))
      (first
      | (go_at_call 18; (with_reducible refine (C1.out _ (by assumption)).mono ?_); rintro e w5 ⟨v1, rfl, hv1, hw5⟩; have ex5 : Ext w4 w5 := Ext.trans hex4 hw5)
      | (go_at_call 7; refine (dcmp_at hv1.dg (by exact (hr.ext ex5).dg) (by exact HTV.out _ ex5) HCI.out).mono ?_; rintro e w6 ⟨rfl, hw6⟩; have ex6 : Ext w4 w6 := Ext.trans ex5 hw6))
    have HF := Lib.hid (Ext.trans HE.out ex6)
    cases ok with
    | false =>
      obtain rfl : b = false := by rw [← HCB.out]; rfl
      go_wp2
      exact bodyPost_ret (v := .tuple #[.int .u64 0, .int .u64 0, .bool false]) (by simp [results, Tryz.results35, go_sem]) rfl ⟨rfl, HF.out⟩
    | true =>
      by_cases hc0 : c = 0
      · obtain rfl : b = true := by rw [← HCB.out]; simp [hc0]
        subst hc0
        go_wp2
        exact bodyPost_ret (v := .tuple #[.int .u64 (f : Int), .int .u64 (t : Int), .bool true]) (by simp [results, Tryz.results35, go_sem]) rfl ⟨rfl, HF.out⟩
      · obtain rfl : b = false := by rw [← HCB.out]; simp [hc0]
        have hc1 : (c != 0) = true := by simpa using hc0
        clear hc0
        go_wp2
        exact bodyPost_ret (v := .tuple #[.int .u64 0, .int .u64 0, .bool false]) (by simp [results, Tryz.results35, go_sem]) rfl ⟨rfl, HF.out⟩

/-- what the pairs return -/
def pairV (f t : Nat) (b : Bool) : Value := .tuple (if b then #[.int .u64 (f : Int), .int .u64 (t : Int), .bool true] else #[.int .u64 0, .int .u64 0, .bool false])

set_option maxRecDepth 100000 in
set_option maxHeartbeats 4000000 in
theorem twoSum_any (a b : Nat) (ha : a < 18446744073709551616) (hb : b < 18446744073709551616) (w : World) (hT : Table w) (hT6 : Table64 w) (f t : Nat) (ok : Bool) (hf : faddF a b 0 = f) (ht : rest f (dadd (fdy a) (fdy b)) = t) (hok : restB f (dadd (fdy a) (fdy b)) = ok) :
    Calls Tryz.prog 16 #[.int .u64 (a : Int), .int .u64 (b : Int)] w fun e w' => e = .returned (pairV f t ok) ∧ Ext w w' := by
  have hfl : f < 18446744073709551616 := by rw [← hf]; exact fadd_lt _ hb
  obtain ⟨da, hda⟩ : ∃ d, fdy a = d := ⟨_, rfl⟩
  obtain ⟨db, hdb⟩ : ∃ d, fdy b = d := ⟨_, rfl⟩
  rw [hda, hdb] at ht hok
  have HF := Lib.hid hf
  have CA := Lib.hid (fun W (hE : Ext w W) => fof_at (f := a) ha hda W (hT6.below hE))
  have CB := Lib.hid (fun W (hE : Ext w W) => fof_at (f := b) hb hdb W (hT6.below hE))
  have HTT := Lib.hid (fun W (hE : Ext w W) => hT.below hE)
  have HT6 := Lib.hid (fun W (hE : Ext w W) => hT6.below hE)
  have H1 := Lib.hid ht
  have H2 := Lib.hid hok
  clear hf hda hdb ht hok hT hT6
  go_enter Tryz.func16, Tryz.ntmps16
  go_wp2_with fail
  refine (addF_at ha hb HF.out w).mono ?_
  rintro e w1 ⟨rfl, h1⟩
  go_wp2_with fail
  refine (CA.out _ h1).mono ?_
  rintro e w2 ⟨v1, rfl, hv1, hw2⟩
  have h2 := Ext.trans h1 hw2
  go_wp2_with fail
  refine (CB.out _ h2).mono ?_
  rintro e w3 ⟨v2, rfl, hv2, hw3⟩
  have h3 := Ext.trans h2 hw3
  have hv1 := hv1.ext hw3
  go_wp2_with fail
  refine (dadd_any _ _ _ _ _ hv1.dg hv2.dg (HTT.out _ h3)).mono ?_
  rintro e w4 ⟨v3, rfl, hv3, hw4⟩
  have h4 := Ext.trans h3 hw4
  go_wp2_with fail
  refine (withRest_any f hfl _ _ _ hv3.dg (HTT.out _ h4) (HT6.out _ h4) t ok H1.out H2.out).mono ?_
  rintro e w5 ⟨rfl, hw5⟩
  have HE := Lib.hid (Ext.trans h4 hw5)
  clear h1 h2 h3 h4 hw2 hw3 hw4 hw5 hv1 hv2 hv3
  cases ok with
  | false =>
    go_wp2
    exact bodyPost_ret (v := .tuple #[.int .u64 0, .int .u64 0, .bool false]) (by simp [results, Tryz.results16, go_sem]) rfl ⟨rfl, HE.out⟩
  | true =>
    go_wp2
    exact bodyPost_ret (v := .tuple #[.int .u64 (f : Int), .int .u64 (t : Int), .bool true]) (by simp [results, Tryz.results16, go_sem]) rfl ⟨rfl, HE.out⟩

end Go.Proofs.YtapcecjbmcoliaaGreatDoor

namespace Go.Proofs.YtapcecjbmcoliaaGreatDoor

theorem frdF_of {d : Dy} {R : Int} (h : Is d 1074 R) (hR : R ≠ 0) (mode : Int) : frdF d mode = rnd R (-1074) mode := by
  obtain ⟨m, e, rfl, _, h2, rfl⟩ := h
  have hm : m ≠ 0 := by rintro rfl; simp at hR
  show rz m e mode = _
  unfold rz
  rw [if_neg hm]
  have := rnd_up hm (e + ((1074 : Nat) : Int)).toNat e mode
  rw [← this]
  congr 1
  omega

/-- what has room in a float is rounded to itself -/
theorem frd_room {d : Dy} {R : Int} {K j : Nat} (h : Is d 1074 R) (hK : R.natAbs = K * 2 ^ j) (hK1 : K < 9007199254740992) (hlt : R.natAbs < fz 9218868437227405312) (mode : Int) : fdy (frdF d mode) = d := by
  by_cases hR : R = 0
  · subst hR
    obtain ⟨m, e, rfl, h1, h2, h3⟩ := h
    have hm : m = 0 := by
      rcases Int.mul_eq_zero.1 h3.symm with h | h
      · exact h
      · exact absurd h (Int.ne_of_gt (two_pos _))
    subst hm
    rcases h1 with ⟨_, rfl⟩ | ⟨h1, _⟩
    · show fdy (rz 0 0 mode) = _
      unfold rz
      rw [if_pos rfl]
      exact fdy_zero (by decide)
    · simp at h1
  · rw [frdF_of h hR]
    obtain ⟨_, h2, h3, h4⟩ := rnd_facts R (-1074) mode
    obtain ⟨h5, h6⟩ := fla_room hK (by omega) hK1 hlt (decide (R < 0)) mode
    generalize rnd R (-1074) mode = f at *
    rw [← h4] at h5 h6
    rw [fz_mag] at h6
    have hfz : fzs f = R := by
      unfold fzs
      rw [h3, h6]
      by_cases h : R < 0
      · simp [h]; omega
      · simp [h]; omega
    unfold fdy
    rw [if_pos (show finB f = true from decide_eq_true h5), hfz]
    exact h.mk.symm

theorem fzs_lt {f : Nat} (h : finB f = true) : (fzs f).natAbs < 2 ^ (52 + low46) := by
  have := fz_bound h
  rw [← fzs_abs] at this
  exact this

theorem abs_sub_lt {x y : Int} {B : Nat} (hx : x.natAbs < 2 ^ B) (hy : y.natAbs < 2 ^ B) : (x - y).natAbs < 2 ^ (B + 1) := by
  have := abs_add_lt hx (y := -y) (by rw [Int.natAbs_neg]; exact hy)
  rwa [← Int.sub_eq_add_neg] at this
/-- a sum and its rest -/
theorem free_sum {a b s : Nat} (ha : finB a = true) (hb : finB b = true) (hbl : b < 18446744073709551616) (hs : faddF a b 0 = s) :
    restB s (dadd (fdy a) (fdy b)) = finB s ∧ (finB s = true → dadd (fdy s) (fdy (rest s (dadd (fdy a) (fdy b)))) = dadd (fdy a) (fdy b)) := by
  have hV : Is (dadd (fdy a) (fdy b)) 1074 (fzs a + fzs b) := (fdy_is ha).add (fdy_is hb) (by omega) (abs_add_lt (fzs_lt ha) (fzs_lt hb)) (by rw [low46_le]; omega)
  cases hf : finB s with
  | false =>
    refine ⟨?_, fun h => by cases h⟩
    unfold restB
    have : fdy s = none := by unfold fdy; rw [hf]; rfl
    rw [this, dsub_none']
    simp
  | true =>
    have hVb := abs_add_lt (fzs_lt ha) (fzs_lt hb)
    obtain ⟨V, hVe⟩ : ∃ V, fzs a + fzs b = V := ⟨_, rfl⟩
    rw [hVe] at hV hVb
    have hrank := add_rank 0 ha hb hbl
    rw [hs, hVe] at hrank
    have hsn := fin_nan hf
    have hzn := (rz_facts V (-1074) 0).1
    have hfzs : fzs s = fzs (rz V (-1074) 0) := by
      have := (fs_rank (T := 1074) hsn hzn).2.2 hrank
      rw [fs_fzs, fs_fzs] at this
      exact this
    have hR : Is (dsub (dadd (fdy a) (fdy b)) (fdy s)) 1074 (V - fzs s) :=
      Is.sub hV (fdy_is hf) (by omega) (B := 52 + low46 + 1 + 1) (abs_sub_lt hVb (lt_up (fzs_lt hf))) (by rw [low46_le]; omega)
    have hroom : ∃ K j, (V - fzs s).natAbs = K * 2 ^ j ∧ K < 9007199254740992 ∧ (V - fzs s).natAbs < fz 9218868437227405312 := by
      by_cases h0 : V = 0
      · have hz : fzs s = 0 := by rw [hfzs, h0]; show fzs (rz 0 (-1074) 0) = 0; unfold rz; rw [if_pos rfl]; decide
        rw [h0, hz]
        exact ⟨0, 0, by simp, by omega, by rw [fz_inf]; exact Nat.mul_pos (Nat.pow_pos (by omega)) (Nat.pow_pos (by omega))⟩
      · have hrz : rz V (-1074) 0 = rnd V (-1074) 0 := by unfold rz; rw [if_neg h0]
        rw [hrz] at hfzs hrank
        obtain ⟨_, _, h3, h4⟩ := rnd_facts V (-1074) 0
        obtain ⟨hr1, hr2⟩ := fin_rank hf
        rw [hrank] at hr1 hr2
        generalize rnd V (-1074) 0 = f at *
        have hfl : fla (decide (V < 0)) V.natAbs (-1074) false 0 < 9218868437227405312 := by
          rw [← h4]
          unfold frank at hr1 hr2
          cases hfn : fneg f <;> rw [hfn] at hr1 hr2 <;> simp at hr1 hr2 <;> omega
        obtain ⟨K, j, k1, k2, k3⟩ := sum_rest ha hb hVe.symm h0 (decide (V < 0)) h4.symm (by rw [h4]; exact hfl)
        rw [fz_mag] at k1 k3
        have hd : (V - fzs s).natAbs = dist V.natAbs (fz f) := by
          rw [hfzs]
          unfold dist fzs
          rw [h3]
          by_cases h : V < 0
          · simp [h]; omega
          · simp [h]; omega
        rw [hd]
        exact ⟨K, j, k1, k2, k3⟩
    obtain ⟨K, j, k1, k2, k3⟩ := hroom
    have hfr := frd_room hR k1 k2 k3 0
    have hrest : fdy (rest s (dadd (fdy a) (fdy b))) = dsub (dadd (fdy a) (fdy b)) (fdy s) := hfr
    have hne : dsub (dadd (fdy a) (fdy b)) (fdy s) ≠ none := by obtain ⟨m, e, h1, _⟩ := hR; rw [h1]; simp
    refine ⟨?_, fun _ => ?_⟩
    · unfold restB
      rw [hrest]
      simp [hne, sgn3]
    · rw [hrest]
      have := (fdy_is hf).add hR (by omega) (B := 52 + low46 + 1) (by rw [show fzs s + (V - fzs s) = V by omega]; exact hVb) (by rw [low46_le]; omega)
      rw [show fzs s + (V - fzs s) = V by omega] at this
      exact this.unique hV

end Go.Proofs.YtapcecjbmcoliaaGreatDoor

namespace Go.Proofs.YtapcecjbmcoliaaGreatDoor

/-- what the four roundings of a dyad with more bits are -/
structure NearBig (d lo hi near inn : Dy) (c : Int) : Prop where
  lo_ne : lo ≠ none
  hi_ne : hi ≠ none
  near_ne : near ≠ none
  lohi : lo ≠ hi
  a : sgn3 (sc lo) (sc d) = -1
  b : sgn3 (sc d) (sc hi) = -1
  below : dsub d lo ≠ none
  above : dsub hi d ≠ none
  cmp : sgn3 (sc (dsub d lo)) (sc (dsub hi d)) = c
  choice : c = -1 ∧ near = lo ∨ c = 1 ∧ near = hi ∨ c = 0 ∧ (near = lo ∨ near = hi)
  inward : dm d < 0 ∧ inn = hi ∨ 0 ≤ dm d ∧ inn = lo

end Go.Proofs.YtapcecjbmcoliaaGreatDoor

namespace Go.Proofs.YtapcecjbmcoliaaGreatDoor

/-- what the statement compares -/
structure QuoIs (a b lo hi : Dy) (p x y : Int) : Prop where
  lon : lo ≠ none
  hin : hi ≠ none
  lob : (blen (dm lo).natAbs : Int) ≤ p
  hib : (blen (dm hi).natAbs : Int) ≤ p
  lom : dmul lo b ≠ none
  him : dmul hi b ≠ none
  cx : sgn3 (sc (dmul lo b)) (sc a) = x
  cy : sgn3 (sc a) (sc (dmul hi b)) = y
  xle : ¬ 0 < x
  yle : ¬ 0 < y
  same : lo = hi ↔ x = 0
  both : x = 0 ↔ y = 0

end Go.Proofs.YtapcecjbmcoliaaGreatDoor

namespace Go.Proofs.YtapcecjbmcoliaaGreatDoor

theorem isq_ex (N : Nat) : ∃ s, s * s ≤ N ∧ N < (s + 1) * (s + 1) := by
  induction N with
  | zero => exact ⟨0, by omega, by omega⟩
  | succ n ih =>
    obtain ⟨s, h1, h2⟩ := ih
    by_cases h : n + 1 < (s + 1) * (s + 1)
    · exact ⟨s, by omega, h⟩
    · refine ⟨s + 1, by omega, ?_⟩
      have e : (s + 1 + 1) * (s + 1 + 1) = (s + 1) * (s + 1) + 2 * (s + 1) + 1 := by rw [Nat.add_mul (s + 1) 1, Nat.mul_add (s + 1) (s + 1) 1]; omega
      omega
/-- the root without its fraction -/
noncomputable def isq (N : Nat) : Nat := (isq_ex N).choose
theorem isq_spec (N : Nat) : isq N * isq N ≤ N ∧ N < (isq N + 1) * (isq N + 1) := (isq_ex N).choose_spec
theorem isq_le {N a : Nat} : a ≤ isq N ↔ a * a ≤ N := by
  obtain ⟨h1, h2⟩ := isq_spec N
  constructor
  · intro h; exact Nat.le_trans (Nat.mul_le_mul h h) h1
  · intro h
    rcases Nat.lt_or_ge (isq N) a with h3 | h3
    · have := Nat.mul_le_mul (show isq N + 1 ≤ a from h3) (show isq N + 1 ≤ a from h3)
      omega
    · exact h3
theorem isq_of {N s : Nat} (h1 : s * s ≤ N) (h2 : N < (s + 1) * (s + 1)) : s = isq N := by
  have a := isq_le.2 h1
  rcases Nat.lt_or_ge s (isq N) with h | h
  · have := isq_le.1 (show s + 1 ≤ isq N from h)
    omega
  · omega
theorem isq_sq (a : Nat) : isq (a * a) = a := by
  refine (isq_of (Nat.le_refl _) ?_).symm
  have e : (a + 1) * (a + 1) = a * a + 2 * a + 1 := by rw [Nat.add_mul a 1, Nat.mul_add a a 1]; omega
  omega

/-- what the statement compares -/
structure RootIs (a lo hi : Dy) (x y : Int) : Prop where
  lon : lo ≠ none
  hin : hi ≠ none
  lob : blen (dm lo).natAbs ≤ 80
  hib : blen (dm hi).natAbs ≤ 80
  lom : dmul lo lo ≠ none
  him : dmul hi hi ≠ none
  cx : sgn3 (sc (dmul lo lo)) (sc a) = x
  cy : sgn3 (sc a) (sc (dmul hi hi)) = y
  xle : ¬ 0 < x
  yle : ¬ 0 < y
  same : lo = hi ↔ x = 0

end Go.Proofs.YtapcecjbmcoliaaGreatDoor
