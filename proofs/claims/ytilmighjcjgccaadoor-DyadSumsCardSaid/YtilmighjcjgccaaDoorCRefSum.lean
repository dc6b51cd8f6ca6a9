/- What the reference's Sum does. -/
import Derived.Test.YtilmighjcjgccaaDoorCRefSumM
import Derived.Test.YtilmighjcjgccaaDoorHg
import Derived.Test.YtilmighjcjgccaaDoorGp
import Derived.Test.YtilmighjcjgccaaDoorIa
import Derived.Test.YtilmighjcjgccaaDoorCRefSumA
import Derived.Test.YtilmighjcjgccaaDoorCRefSumB
namespace Go.Proofs.YtilmighjcjgccaaDoor
open Go Go.RowKit

theorem wp_last {P : Program} {c : Code} {Q : Exit → Act → World → Prop} {a : Act} {w : World} (h : Code.wp P c (Exit.then (fun a w => Q .normal a w) Q) a w) : Code.wp P c Q a w :=
  Code.wp_mono (fun e a w h => by cases e <;> exact h) h
theorem refSum_l13 {f0 f1 f2 f5 f7 f8 f9 f10 f11 f12 f13 f14 f15 f16 f17 f18 f19 f20 f21 f22 f23 f24 f25 f26 f27 f28 f29 f30 f31 f32 f33 f34 f35 f36 f37 f38 f39 f40 f41 f42 f43 f44 f45 f46 f47 f48 f49 f50 f51 f52 f53 f54 f55 f56 f57 f58 f59 f60 f61 : Value} {Q : Exit → Act → World → Prop} {xn rn : Bool} {xo ro : Option Addr} {xk xc rk rc : Nat} {M qm E re : Int} {sh B C G : Nat} {w w5 : World}
    (hQ : ∀ (a' : Act) (wx : World), (∃ u50 u51 u52 u53 u54 u55 u56 u57 u58 : Value, (∃ zn zo zk zc, Box wx G zn zo zk zc ∧ Bn wx zn zo zk zc (M + qm * 2 ^ sh) ∧ Below B w wx ∧ DBox wx B false false none 0 0 0) ∧ a' = ⟨#[f0, f1, f2, .pointer (some ⟨G, 0, none⟩), .int .i64 E, f5, .pointer (some ⟨C, 0, none⟩), f7, f8, f9, f10, f11, f12, f13, f14, f15, f16, f17, f18, f19, f20, f21, f22, f23, f24, f25, f26, f27, f28, f29, f30, f31, f32, f33, f34, f35, f36, f37, f38, f39, f40, f41, f42, f43, f44, f45, f46, f47, f48, f49, u50, u51, u52, u53, u54, u55, u56, u57, u58, f59, f60, f61], []⟩) → Q .normal a' wx)
    (HC' : Hid (∀ wx, Ext w5 wx → wx.cell? ⟨C, 1, none⟩ = some (.bool rn) ∧ wx.cell? ⟨C, 2, none⟩ = some (.slice ro rk rc) ∧ wx.cell? ⟨C, 3, none⟩ = some (.int .i64 re) ∧ wx.cell? ⟨G, 0, none⟩ = some (.bool xn) ∧ wx.cell? ⟨G, 1, none⟩ = some (.slice xo xk xc))) (CSh : Hid (∀ W, Ext w5 W → Calls Tryd.prog 44 #[.agg #[.bool rn, .slice ro rk rc], .int .i64 (re - E)] W fun r w' => ∃ nr ro' k cr, r = .returned (.agg #[.bool nr, .slice ro' k cr]) ∧ Bn w' nr ro' k cr (qm * 2 ^ sh) ∧ k ≤ 1000000000 ∧ Ext W w')) (CAd : Hid (∀ W sn so sk sc, Ext w5 W → Bn W sn so sk sc (qm * 2 ^ sh) → sk ≤ 1000000000 → Calls Tryd.prog 43 #[.agg #[.bool xn, .slice xo xk xc], .agg #[.bool sn, .slice so sk sc]] W fun r w' => ∃ nr ro' k cr, r = .returned (.agg #[.bool nr, .slice ro' k cr]) ∧ Bn w' nr ro' k cr (M + qm * 2 ^ sh) ∧ Ext W w')) (hgm : Box w5 G xn xo xk xc) (hbr : DBox w5 B false false none 0 0 0) (hE5 : Below B w w5) (hE5' : B ≤ w5.heap.size) (hGB : B < G) (hws : IntKind.i64.wrap (re - E) = re - E) :
    Code.wp Tryd.prog refSum_r13_code Q ⟨#[f0, f1, f2, .pointer (some ⟨G, 0, none⟩), .int .i64 E, f5, .pointer (some ⟨C, 0, none⟩), f7, f8, f9, f10, f11, f12, f13, f14, f15, f16, f17, f18, f19, f20, f21, f22, f23, f24, f25, f26, f27, f28, f29, f30, f31, f32, f33, f34, f35, f36, f37, f38, f39, f40, f41, f42, f43, f44, f45, f46, f47, f48, f49, f50, f51, f52, f53, f54, f55, f56, f57, f58, f59, f60, f61], []⟩ w5 :=
  wp_last (refSum_r13 (J := fun a w => Q .normal a w) (K' := fun a w => Q .normal a w) hQ (fun _ _ h => h) HC' CSh CAd hgm hbr hE5 hE5' hGB hws)

theorem refSum_l9 {f0 f1 f2 f5 f7 f8 f9 f10 f11 f12 f13 f14 f15 f16 f17 f18 f19 f20 f21 f22 f23 f24 f25 f26 f27 f28 f29 f30 f31 f32 f33 f34 f35 f36 f37 f38 f39 f40 f41 f42 f43 f44 f45 f46 f47 f48 f49 f50 f51 f52 f53 f54 f55 f56 f57 f58 f59 f60 f61 : Value} {Q : Exit → Act → World → Prop} {xn rn : Bool} {xo ro : Option Addr} {xk xc rk rc : Nat} {M qm E re : Int} {sh B C G : Nat} {w w5 : World}
    (hQ : ∀ (a' : Act) (wx : World), (∃ u4 u26 u27 u28 u29 u30 u31 u32 u33 u34 u35 u36 u37 u38 u39 u40 u41 u42 u43 u44 u45 u46 u47 u48 u49 u50 u51 u52 u53 u54 u55 u56 u57 u58 : Value, (∃ zn zo zk zc, u4 = .int .i64 re ∧ Box wx G zn zo zk zc ∧ Bn wx zn zo zk zc (M * 2 ^ sh + qm) ∧ Below B w wx ∧ DBox wx B false false none 0 0 0) ∧ a' = ⟨#[f0, f1, f2, .pointer (some ⟨G, 0, none⟩), u4, f5, .pointer (some ⟨C, 0, none⟩), f7, f8, f9, f10, f11, f12, f13, f14, f15, f16, f17, f18, f19, f20, f21, f22, f23, f24, f25, u26, u27, u28, u29, u30, u31, u32, u33, u34, u35, u36, u37, u38, u39, u40, u41, u42, u43, u44, u45, u46, u47, u48, u49, u50, u51, u52, u53, u54, u55, u56, u57, u58, f59, f60, f61], []⟩) → Q .normal a' wx)
    (HC' : Hid (∀ wx, Ext w5 wx → wx.cell? ⟨C, 1, none⟩ = some (.bool rn) ∧ wx.cell? ⟨C, 2, none⟩ = some (.slice ro rk rc) ∧ wx.cell? ⟨C, 3, none⟩ = some (.int .i64 re) ∧ wx.cell? ⟨G, 0, none⟩ = some (.bool xn) ∧ wx.cell? ⟨G, 1, none⟩ = some (.slice xo xk xc))) (CSh : Hid (∀ W, Ext w5 W → Calls Tryd.prog 44 #[.agg #[.bool xn, .slice xo xk xc], .int .i64 (E - re)] W fun r w' => ∃ nr ro' k cr, r = .returned (.agg #[.bool nr, .slice ro' k cr]) ∧ Bn w' nr ro' k cr (M * 2 ^ sh) ∧ k ≤ 1000000000 ∧ Ext W w')) (CAd : Hid (∀ W sn so sk sc, Ext w5 W → Bn W sn so sk sc (M * 2 ^ sh) → sk ≤ 1000000000 → Calls Tryd.prog 43 #[.agg #[.bool sn, .slice so sk sc], .agg #[.bool rn, .slice ro rk rc]] W fun r w' => ∃ nr ro' k cr, r = .returned (.agg #[.bool nr, .slice ro' k cr]) ∧ Bn w' nr ro' k cr (M * 2 ^ sh + qm) ∧ Ext W w')) (hgm : Box w5 G xn xo xk xc) (hbr : DBox w5 B false false none 0 0 0) (hE5 : Below B w w5) (hE5' : B ≤ w5.heap.size) (hGB : B < G) (hws : IntKind.i64.wrap (E - re) = E - re) :
    Code.wp Tryd.prog refSum_r9_code Q ⟨#[f0, f1, f2, .pointer (some ⟨G, 0, none⟩), .int .i64 E, f5, .pointer (some ⟨C, 0, none⟩), f7, f8, f9, f10, f11, f12, f13, f14, f15, f16, f17, f18, f19, f20, f21, f22, f23, f24, f25, f26, f27, f28, f29, f30, f31, f32, f33, f34, f35, f36, f37, f38, f39, f40, f41, f42, f43, f44, f45, f46, f47, f48, f49, f50, f51, f52, f53, f54, f55, f56, f57, f58, f59, f60, f61], []⟩ w5 :=
  wp_last (refSum_r9 (J := fun a w => Q .normal a w) (K' := fun a w => Q .normal a w) hQ (fun _ _ h => h) HC' CSh CAd hgm hbr hE5 hE5' hGB hws)

theorem DSl.atL {w : World} {ao : Option Addr} {n cap : Nat} {l : List DP} {D : List Dy} (h : DSl w ao n cap l D) (hd : ∀ j, j < n → Dl w (l.getD j DP.zero).v (D.getD j none)) (j : Nat) (hj : j < n) : ∃ b off bb nb bo m cb e, ao = some ⟨b, off, none⟩ ∧
    w.cell? ⟨b, off + 4 * j, none⟩ = some (.bool bb) ∧ w.cell? ⟨b, off + 4 * j + 1, none⟩ = some (.bool nb) ∧ w.cell? ⟨b, off + 4 * j + 2, none⟩ = some (.slice bo m cb) ∧ w.cell? ⟨b, off + 4 * j + 3, none⟩ = some (.int .i64 e) ∧
    Dl w (.agg #[.bool bb, .bool nb, .slice bo m cb, .int .i64 e]) (D.getD j none) := by
  obtain ⟨b, off, e, hc⟩ := h.cells (by omega)
  obtain ⟨c0, c1, c2, c3⟩ := hc j hj
  exact ⟨_, _, _, _, _, _, _, _, e, c0, c1, c2, c3, hd j hj⟩

set_option maxRecDepth 100000 in
set_option maxHeartbeats 16000000 in
theorem refSum_any (ao : Option Addr) (n cap : Nat) (l : List DP) (D : List Dy) (w : World) (h : DSl w ao n cap l D) (hd : ∀ j, j < n → Dl w (l.getD j DP.zero).v (D.getD j none)) (hT : Table w) (hn : n ≤ 1000000) :
    Calls Tryd.prog 12 #[.slice ao n cap] w fun e w' => ∃ v, e = .returned v ∧ Dn w' v (dtotal D) ∧ Ext w w' := by
  have HDL := Lib.hid h.lenD
  have HH := Lib.hid (fun W (hE : Ext w W) => DSl.atL (h.below hE) (fun j hj => (hd j hj).ext hE))
  have hndall : ∀ d ∈ D, Nd d := by
    intro d hd
    obtain ⟨i, hi, rfl⟩ := List.getElem_of_mem hd
    have := dg_nd (h.reads i (by have := h.lenD; omega))
    simpa [List.getD, hi] using this
  have HND := Lib.hid hndall
  have HT := Lib.hid (fun W (hE : Ext w W) => hT.below hE)
  clear h hd hndall hT
  go_enter Tryd.func12, Tryd.ntmps12
  go_upto_region 1 with fail
  obtain ⟨W, hW, hB, hbx, hz⟩ := dbox_new w false false none 0 0 0
  rw [← hW]
  clear hW
  generalize hBe : w.heap.size = B at *
  have HBe := Lib.hid hBe
  have HEX : ∀ wx, Below B w wx → Ext w wx := fun wx h => by rw [← hBe] at h; exact h
  have HEX' := Lib.hid HEX
  clear hBe HEX
  have hG0 : Box ((W.alloc (.cells #[.bool false, .slice none 0 0] 27))) W.heap.size false none 0 0 := Box.new W _ _ _ _
  have hE0 := bnext hB (by omega) ((Below.refl W.heap.size W).alloc (Nat.le_refl _) (.cells #[.bool false, .slice none 0 0] 27))
  have hb0 : DBox (W.alloc (.cells #[.bool false, .slice none 0 0] 27)) B false false none 0 0 0 := hbx.below ((Below.refl W.heap.size W).alloc (Nat.le_refl _) _)
  have hGB : B < W.heap.size := by omega
  obtain ⟨G, hG⟩ : ∃ G, W.heap.size = G := ⟨_, rfl⟩
  go_upto_region 2 with fail
  generalize hV0 : W.alloc (.cells #[.bool false, .slice none 0 0] 27) = V0 at *
  rw [hG] at hG0 hGB
  have hE0 := hE0.1
  clear hbx hB hz hG hV0
  go_wp2
  go_loopw [4, 5, 6, 37, 45] (fun ev iv _ _ _ wr => ∃ (j : Nat) (M E : Int) (xn : Bool) (xo : Option Addr) (xk xc : Nat), j ≤ n ∧ iv = .int .i64 j ∧ ev = .int .i64 E ∧ none ∉ D.take j ∧ SI D j M E ∧ Box wr G xn xo xk xc ∧ Bn wr xn xo xk xc M ∧ Below B w wr ∧ DBox wr B false false none 0 0 0)
    (fun _ iv _ _ _ _ => n - (intOf iv).toNat)
  case atStart => exact ⟨0, 0, 0, _, _, _, _, Nat.zero_le _, rfl, rfl, by simp, si_zero D, hG0, ⟨rfl, by simp [limbs_zero]; exact Sl.nil V0⟩, hE0, hb0⟩
  case round =>
    obtain ⟨j, M, E, xn, xo, xk, xc, hj, rfl, rfl, hno, hSI, hgm, hM, hE, hbr⟩ := hrel
    have hMb := si_blen hSI (by omega) HND.out
    have hE00 := hSI.lo
    have hE01 := hSI.hi
    have hgM := bn_bg_of hM (by omega)
    have hxk : xk ≤ 40000 := bn_len hM (by omega)
    have hE' : B ≤ wr.heap.size := by have := hbr.lt; omega
    have HSI := Lib.hid hSI
    have HNO := Lib.hid hno
    clear hSI hno hMb hG0 hE0 hb0
    by_cases hlt : j < n
    · obtain ⟨b, off, bb, nb, bo, m, cb, ee, rfl, c0, c1, c2, c3, hdl⟩ := HH.out _ (HEX'.out _ hE) j hlt
      have hJL : j < D.length := by rw [HDL.out]; exact hlt
      have HJL := Lib.hid hJL
      have hnext := mem_take_succ (D := D) hJL
      obtain ⟨d, hd⟩ : ∃ d, D.getD j none = d := ⟨_, rfl⟩
      rw [hd] at hdl hnext
      have HNX := Lib.hid hnext
      have HDJ := Lib.hid hd
      clear hnext hJL hd
      have e4 : off + j * 4 = off + 4 * j := by omega
      go_wp2_with fail
      refine (refDNorm_any _ _ _ hdl (HT.out _ (HEX'.out _ hE))).mono ?_
      rintro e w2 ⟨r, rfl, hr, hw2⟩
      obtain ⟨rb, rn, ro, rk, rc, re, rfl⟩ := hr.parts
      have hgm := hgm.below hw2
      have hgM := hgM.below hw2
      have hM := hM.below hw2
      have hbr := hbr.below hw2
      obtain ⟨hE2, hE2'⟩ := bnext hE hE' hw2
      clear c0 c1 c2 c3 hdl hw2 hE hE' e4
      go_upto_region 6 with fail
      obtain ⟨V, hV, hVB, hvx, hvz⟩ := dbox_new w2 rb rn ro rk rc re
      rw [← hV]
      clear hV
      have hGC : G < w2.heap.size := hgm.lt
      have hgm := hgm.below hVB
      have hgM := hgM.below hVB
      have hM := hM.below hVB
      have hbr := hbr.below hVB
      have hr := hr.ext hVB
      obtain ⟨hEV, hEV'⟩ := bnext hE2 hE2' hVB
      clear hE2 hE2' hVB hvz
      generalize w2.heap.size = C at *
      obtain ⟨g1, g2, g3⟩ := hr.get
      have k0 := hvx.c0
      have k1 := hvx.c1
      have k2 := hvx.c2
      have k3 := hvx.c3
      cases d with
      | none =>
        obtain rfl : rb = true := g1
        have hdt : dtotal D = none := by
          unfold dtotal
          rw [if_pos]
          have hm : none ∈ D.take (j + 1) := by rw [HNX.out]; simp
          exact List.mem_of_mem_take hm
        have HDT := Lib.hid hdt; clear hdt
        go_wp2_with fail
        refine (refBad_any _).mono ?_
        rintro e w4 ⟨rfl, hw4⟩
        have hbr := hbr.below hw4
        obtain ⟨hE4, hE4'⟩ := bnext hEV hEV' hw4
        clear k0 k1 k2 k3
        have q0 := hbr.c0
        have q1 := hbr.c1
        have q2 := hbr.c2
        have q3 := hbr.c3
        have f0 := hbr.f 0
        have f1 := hbr.f 1
        have f2 := hbr.f 2
        have f3 := hbr.f 3
        have hres := dn_stored hbr (dn_bad w4) w hE4 (Nat.le_refl B)
        have z3 := hbr.stored true false none 0 0 0
        have z0 := z3.c0
        have z1 := z3.c1
        have z2 := z3.c2
        have z4 := z3.c3
        have HRES := Lib.hid hres; clear hres z3
        go_wp2
        refine bodyPost_ret (v := .agg #[.bool true, .bool false, .slice none 0 0, .int .i64 0]) (by simp [results, Tryd.results12, go_sem, z0, z1, z2, z4]) rfl ⟨_, rfl, ?_, ?_⟩
        · rw [HDT.out]; exact HRES.out.1
        · show Below _ _ _; rw [HBe.out]; exact HRES.out.2
      | some q =>
        obtain ⟨qm, qe⟩ := q
        obtain rfl : rb = false := g1
        obtain rfl : re = qe := g2
        have g3 : Bn V rn ro rk rc qm := g3
        have hndq := nd_blen hr.1
        have hgq := bn_bg_of g3 (by have := hndq.1; simp only [dm, Option.getD_some] at this; omega)
        have hrk : rk ≤ 40000 := bn_len g3 (by have := hndq.1; simp only [dm, Option.getD_some] at this; omega)
        have hq0 : -65536 ≤ re := hndq.2.1
        have hq1 : re ≤ 65536 := hndq.2.2
        have hno' : none ∉ D.take (j + 1) := by
          rw [HNX.out]; simp; exact HNO.out
        have HNO2 := Lib.hid hno'
        clear hno' hndq
        by_cases h0 : qm = 0
        · have hs0 : sgn3 qm 0 = 0 := by simp [sgn3, h0]
          have H0 := Lib.hid h0; clear h0
          go_wp2_with fail
          refine (refSign_any _ _ _ _ _ _ hgq).mono ?_
          rintro e w4 ⟨rfl, hw4⟩
          rw [hs0]
          obtain ⟨hE4, hE4'⟩ := bnext hEV hEV' hw4
          have hgm := hgm.below hw4
          have hM := hM.below hw4
          have hbr := hbr.below hw4
          have HS2 := Lib.hid (si_skip HSI.out HJL.out (by rw [HDJ.out, H0.out]))
          clear k0 k1 k2 k3 hgM hgq
          go_wp2
          go_roundw
          case rel => exact ⟨j + 1, M, E, xn, xo, xk, xc, by omega, by go_num, rfl, HNO2.out, HS2.out, hgm, hM, hE4, hbr⟩
          case measure => simp [intOf] <;> omega
        · have hs0 : (sgn3 qm 0 == 0) = false := by
            have : sgn3 qm 0 ≠ 0 := fun h => h0 (sgn3_zero h)
            simpa using this
          clear h0
          go_wp2_with fail
          refine (refSign_any _ _ _ _ _ _ hgq).mono ?_
          rintro e w4 ⟨rfl, hw4⟩
          obtain ⟨hE4, hE4'⟩ := bnext hEV hEV' hw4
          have hgm := hgm.below hw4
          have hM := hM.below hw4
          have hbr := hbr.below hw4
          have hgM := hgM.below hw4
          have hgq := hgq.below hw4
          have hvx := hvx.below hw4
          have hq3 := g3.below hw4
          clear k0 k1 k2 k3 hEV hEV' hw4 hr g3
          have k0 := hvx.c0
          have k1 := hvx.c1
          have k2 := hvx.c2
          have k3 := hvx.c3
          have y0 := hgm.c0
          have y1 := hgm.c1
          by_cases h0 : M = 0
          · have hs1 : sgn3 M 0 = 0 := by simp [sgn3, h0]
            go_wp2_with fail
            refine (refSign_any _ _ _ _ _ _ hgM).mono ?_
            rintro e w5 ⟨rfl, hw5⟩
            rw [hs1]
            obtain ⟨hE5, hE5'⟩ := bnext hE4 hE4' hw5
            have hgm := hgm.below hw5
            have hM := hM.below hw5
            have hbr := hbr.below hw5
            have hgM := hgM.below hw5
            have hgq := hgq.below hw5
            have hq3 := hq3.below hw5
            have hvx := hvx.below hw5
            clear k0 k1 k2 k3 y0 y1 hE4 hE4' hw5
            have k0 := hvx.c0
            have k1 := hvx.c1
            have k2 := hvx.c2
            have k3 := hvx.c3
            have y0 := hgm.c0
            have y1 := hgm.c1
            have f0 := hgm.f 0
            have f1 := hgm.f 1
            have hBG : B ≤ G := by omega
            have ho := only_set2 w5.drew G (.bool rn) (.slice ro rk rc)
            have R1 := hgm.drew.stored rn ro rk rc
            have R2 := (hq3.below ((Below.refl _ _).drew) : Bn w5.drew rn ro rk rc qm).only_box hgm.drew ho
            have R3 := (show Below B w w5.drew from hE5.drew).trans (ho.below (B := B) hBG)
            have R4 := (show DBox w5.drew B false false none 0 0 0 from hbr.ext (Below.refl _ _).drew).only ho (by omega)
            have R := Lib.hid (And.intro R1 (And.intro R2 (And.intro R3 R4)))
            have hsi := si_first (by have := HSI.out; rw [h0] at this; exact this) HJL.out HDJ.out hq0 hq1
            have HSI2 := Lib.hid hsi
            clear R1 R2 R3 R4 ho hsi hgM hgq hM hq3 h0
            go_upto_region 11 with fail
            go_region
            all_goals
              go_wp2
              go_roundw
            all_goals
              first
                | (simp [intOf] <;> omega)
                | exact ⟨j + 1, _, _, _, _, _, _, by omega, by go_num, rfl, HNO2.out, HSI2.out, R.out.1, R.out.2.1, R.out.2.2.1, R.out.2.2.2⟩
          · have hs1 : (sgn3 M 0 == 0) = false := by
              have : sgn3 M 0 ≠ 0 := fun h => h0 (sgn3_zero h)
              simpa using this
            clear h0
            go_wp2_with fail
            refine (refSign_any _ _ _ _ _ _ hgM).mono ?_
            rintro e w5 ⟨rfl, hw5⟩
            obtain ⟨hE5, hE5'⟩ := bnext hE4 hE4' hw5
            have hgm := hgm.below hw5
            have hM := hM.below hw5
            have hbr := hbr.below hw5
            have hgM := hgM.below hw5
            have hgq := hgq.below hw5
            have hq3 := hq3.below hw5
            have hvx := hvx.below hw5
            clear k0 k1 k2 k3 y0 y1 hE4 hE4' hw5
            have HC : ∀ wx, Ext w5 wx → wx.cell? ⟨C, 1, none⟩ = some (.bool rn) ∧ wx.cell? ⟨C, 2, none⟩ = some (.slice ro rk rc) ∧ wx.cell? ⟨C, 3, none⟩ = some (.int .i64 re) ∧ wx.cell? ⟨G, 0, none⟩ = some (.bool xn) ∧ wx.cell? ⟨G, 1, none⟩ = some (.slice xo xk xc) := fun wx h =>
              ⟨(hvx.below h).c1, (hvx.below h).c2, (hvx.below h).c3, (hgm.below h).c0, (hgm.below h).c1⟩
            have k3 := hvx.c3
            have hne1 : ¬ G = C := by omega
            have hne2 : ¬ C = G := by omega
            by_cases hge : E ≤ re
            · go_upto_region 13 with fail
              clear k3
              obtain ⟨sh, hsh⟩ : ∃ sh : Nat, re - E = (sh : Int) := ⟨(re - E).toNat, by omega⟩
              have hws : IntKind.i64.wrap (re - E) = re - E := by rw [IntKind.wrap_i64]; omega
              have hsi := si_up HSI.out HJL.out HDJ.out hsh
              have HSI2 := Lib.hid hsi
              have CSh := Lib.hid (show ∀ W, Ext w5 W → Calls Tryd.prog 44 #[.agg #[.bool rn, .slice ro rk rc], .int .i64 (re - E)] W fun r w' => ∃ nr ro' k cr, r = .returned (.agg #[.bool nr, .slice ro' k cr]) ∧ Bn w' nr ro' k cr (qm * 2 ^ sh) ∧ k ≤ 1000000000 ∧ Ext W w' from fun W hW => by
                rw [hsh]
                refine (refShift_up _ _ _ _ _ sh W (hgq.below hW) (by omega)).mono ?_
                rintro r w' ⟨nr, ro', k, cr, h1, h2, h3, h4⟩
                exact ⟨nr, ro', k, cr, h1, h2, by omega, h4⟩)
              have CAd := Lib.hid (show ∀ W sn so sk sc, Ext w5 W → Bn W sn so sk sc (qm * 2 ^ sh) → sk ≤ 1000000000 → Calls Tryd.prog 43 #[.agg #[.bool xn, .slice xo xk xc], .agg #[.bool sn, .slice so sk sc]] W fun r w' => ∃ nr ro' k cr, r = .returned (.agg #[.bool nr, .slice ro' k cr]) ∧ Bn w' nr ro' k cr (M + qm * 2 ^ sh) ∧ Ext W w' from fun W sn so sk sc hW hs hk => by
                exact refAdd_any _ _ _ _ _ _ _ _ _ _ W (hgM.below hW) (hs.bg hk))
              have HC' := Lib.hid HC
              clear hsi hgM hgq hsh HC
              refine refSum_l13 ?_ HC' CSh CAd hgm hbr hE5 hE5' hGB hws
              rintro a' wx ⟨u50, u51, u52, u53, u54, u55, u56, u57, u58, ⟨zn, zo, zk, zc, r1, r2, r3, r4⟩, rfl⟩
              have R := Lib.hid (And.intro r1 (And.intro r2 (And.intro r3 r4)))
              clear r1 r2 r3 r4
              go_wp2
              go_roundw
              case rel =>
                exact ⟨j + 1, _, _, _, _, _, _, by omega, by go_num, rfl, HNO2.out, HSI2.out, R.out.1, R.out.2.1, R.out.2.2.1, R.out.2.2.2⟩
              case measure => simp [intOf] <;> omega
            · have hge' : re < E := by omega
              clear hge
              go_upto_region 9 with fail
              clear k3
              obtain ⟨sh, hsh⟩ : ∃ sh : Nat, E - re = (sh : Int) := ⟨(E - re).toNat, by omega⟩
              have hws : IntKind.i64.wrap (E - re) = E - re := by rw [IntKind.wrap_i64]; omega
              have hsi := si_down HSI.out HJL.out HDJ.out hsh (by omega) (by omega)
              have HSI2 := Lib.hid hsi
              have CSh := Lib.hid (show ∀ W, Ext w5 W → Calls Tryd.prog 44 #[.agg #[.bool xn, .slice xo xk xc], .int .i64 (E - re)] W fun r w' => ∃ nr ro' k cr, r = .returned (.agg #[.bool nr, .slice ro' k cr]) ∧ Bn w' nr ro' k cr (M * 2 ^ sh) ∧ k ≤ 1000000000 ∧ Ext W w' from fun W hW => by
                rw [hsh]
                refine (refShift_up _ _ _ _ _ sh W (hgM.below hW) (by omega)).mono ?_
                rintro r w' ⟨nr, ro', k, cr, h1, h2, h3, h4⟩
                exact ⟨nr, ro', k, cr, h1, h2, by omega, h4⟩)
              have CAd := Lib.hid (show ∀ W sn so sk sc, Ext w5 W → Bn W sn so sk sc (M * 2 ^ sh) → sk ≤ 1000000000 → Calls Tryd.prog 43 #[.agg #[.bool sn, .slice so sk sc], .agg #[.bool rn, .slice ro rk rc]] W fun r w' => ∃ nr ro' k cr, r = .returned (.agg #[.bool nr, .slice ro' k cr]) ∧ Bn w' nr ro' k cr (M * 2 ^ sh + qm) ∧ Ext W w' from fun W sn so sk sc hW hs hk => by
                exact refAdd_any _ _ _ _ _ _ _ _ _ _ W (hs.bg hk) (hgq.below hW))
              have HC' := Lib.hid HC
              clear hsi hgM hgq hsh HC
              refine refSum_l9 ?_ HC' CSh CAd hgm hbr hE5 hE5' hGB hws
              rintro a' wx ⟨u4, u26, u27, u28, u29, u30, u31, u32, u33, u34, u35, u36, u37, u38, u39, u40, u41, u42, u43, u44, u45, u46, u47, u48, u49, u50, u51, u52, u53, u54, u55, u56, u57, u58, ⟨zn, zo, zk, zc, rfl, r1, r2, r3, r4⟩, rfl⟩
              have R := Lib.hid (And.intro r1 (And.intro r2 (And.intro r3 r4)))
              clear r1 r2 r3 r4
              go_wp2
              go_roundw
              case rel =>
                exact ⟨j + 1, _, _, _, _, _, _, by omega, by go_num, rfl, HNO2.out, HSI2.out, R.out.1, R.out.2.1, R.out.2.2.1, R.out.2.2.2⟩
              case measure => simp [intOf] <;> omega
    · obtain rfl : j = n := by omega
      have y0 := hgm.c0
      have y1 := hgm.c1
      have hend := si_end HSI.out HDL.out HNO.out
      have HEND := Lib.hid hend
      clear hend hlt
      go_wp2_with fail
      refine (refMake_any _ _ _ _ _ _ _ hgM (by have := si_blen HSI.out (by omega) HND.out; omega) (by omega) (by omega) (HT.out _ (HEX'.out _ hE))).mono ?_
      rintro e w4 ⟨r, rfl, hr, hw4⟩
      rw [HEND.out] at hr
      have hbr := hbr.below hw4
      obtain ⟨hE4, hE4'⟩ := bnext hE hE' hw4
      obtain ⟨mbb, mb, mo, m, cb, me, rfl⟩ := hr.parts
      clear y0 y1 hgM hM hgm hE
      have q0 := hbr.c0
      have q1 := hbr.c1
      have q2 := hbr.c2
      have q3 := hbr.c3
      have f0 := hbr.f 0
      have f1 := hbr.f 1
      have f2 := hbr.f 2
      have f3 := hbr.f 3
      have hres := dn_stored hbr hr w hE4 (Nat.le_refl B)
      have z3 := hbr.stored mbb mb mo m cb me
      have z0 := z3.c0
      have z1 := z3.c1
      have z2 := z3.c2
      have z4 := z3.c3
      have HRES := Lib.hid hres; clear hres z3
      go_wp2
      refine bodyPost_ret (v := .agg #[.bool mbb, .bool mb, .slice mo m cb, .int .i64 me]) (by simp [results, Tryd.results12, go_sem, z0, z1, z2, z4]) rfl ⟨_, rfl, ?_, ?_⟩
      · exact HRES.out.1
      · show Below _ _ _; rw [HBe.out]; exact HRES.out.2
end Go.Proofs.YtilmighjcjgccaaDoor
