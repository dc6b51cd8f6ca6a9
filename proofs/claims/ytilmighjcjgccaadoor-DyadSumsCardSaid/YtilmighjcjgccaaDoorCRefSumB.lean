/- The reference's Sum: the sum so far is shifted. -/
import Derived.Test.YtilmighjcjgccaaDoorCRefSumM
import Derived.Test.YtilmighjcjgccaaDoorHg
import Derived.Test.YtilmighjcjgccaaDoorGp
import Derived.Test.YtilmighjcjgccaaDoorIa
import Derived.Test.YtilmighjcjgccaaDoorCRefSumA
import Derived.Deep.RegionHeld3
namespace Go.Proofs.YtilmighjcjgccaaDoor
open Go Go.RowKit
noncomputable def refSum_r9_code : Code := ((Tryd.f12.body.bind (regionOf 9)).getD .skip)
set_option maxRecDepth 100000 in
set_option maxHeartbeats 16000000 in
theorem refSum_r9 {f0 f1 f2 f5 f7 f8 f9 f10 f11 f12 f13 f14 f15 f16 f17 f18 f19 f20 f21 f22 f23 f24 f25 f26 f27 f28 f29 f30 f31 f32 f33 f34 f35 f36 f37 f38 f39 f40 f41 f42 f43 f44 f45 f46 f47 f48 f49 f50 f51 f52 f53 f54 f55 f56 f57 f58 f59 f60 f61 : Value} {J K' : Act → World → Prop} {Q' : Exit → Act → World → Prop} {xn rn : Bool} {xo ro : Option Addr} {xk xc rk rc : Nat} {M qm E re : Int} {sh B C G : Nat} {w w5 : World}
    (hJ : ∀ (a' : Act) (wx : World), (∃ u4 u26 u27 u28 u29 u30 u31 u32 u33 u34 u35 u36 u37 u38 u39 u40 u41 u42 u43 u44 u45 u46 u47 u48 u49 u50 u51 u52 u53 u54 u55 u56 u57 u58 : Value, (∃ zn zo zk zc, u4 = .int .i64 re ∧ Box wx G zn zo zk zc ∧ Bn wx zn zo zk zc (M * 2 ^ sh + qm) ∧ Below B w wx ∧ DBox wx B false false none 0 0 0) ∧ a' = ⟨#[f0, f1, f2, .pointer (some ⟨G, 0, none⟩), u4, f5, .pointer (some ⟨C, 0, none⟩), f7, f8, f9, f10, f11, f12, f13, f14, f15, f16, f17, f18, f19, f20, f21, f22, f23, f24, f25, u26, u27, u28, u29, u30, u31, u32, u33, u34, u35, u36, u37, u38, u39, u40, u41, u42, u43, u44, u45, u46, u47, u48, u49, u50, u51, u52, u53, u54, u55, u56, u57, u58, f59, f60, f61], []⟩) → J a' wx) (hK : ∀ (a' : Act) (wx : World), Met J a' wx → K' a' wx)
    (HC' : Hid (∀ wx, Ext w5 wx → wx.cell? ⟨C, 1, none⟩ = some (.bool rn) ∧ wx.cell? ⟨C, 2, none⟩ = some (.slice ro rk rc) ∧ wx.cell? ⟨C, 3, none⟩ = some (.int .i64 re) ∧ wx.cell? ⟨G, 0, none⟩ = some (.bool xn) ∧ wx.cell? ⟨G, 1, none⟩ = some (.slice xo xk xc))) (CSh : Hid (∀ W, Ext w5 W → Calls Tryd.prog 44 #[.agg #[.bool xn, .slice xo xk xc], .int .i64 (E - re)] W fun r w' => ∃ nr ro' k cr, r = .returned (.agg #[.bool nr, .slice ro' k cr]) ∧ Bn w' nr ro' k cr (M * 2 ^ sh) ∧ k ≤ 1000000000 ∧ Ext W w')) (CAd : Hid (∀ W sn so sk sc, Ext w5 W → Bn W sn so sk sc (M * 2 ^ sh) → sk ≤ 1000000000 → Calls Tryd.prog 43 #[.agg #[.bool sn, .slice so sk sc], .agg #[.bool rn, .slice ro rk rc]] W fun r w' => ∃ nr ro' k cr, r = .returned (.agg #[.bool nr, .slice ro' k cr]) ∧ Bn w' nr ro' k cr (M * 2 ^ sh + qm) ∧ Ext W w')) (hgm : Box w5 G xn xo xk xc) (hbr : DBox w5 B false false none 0 0 0) (hE5 : Below B w w5) (hE5' : B ≤ w5.heap.size) (hGB : B < G) (hws : IntKind.i64.wrap (E - re) = E - re) :
    Code.wp Tryd.prog refSum_r9_code (Exit.then K' Q') ⟨#[f0, f1, f2, .pointer (some ⟨G, 0, none⟩), .int .i64 E, f5, .pointer (some ⟨C, 0, none⟩), f7, f8, f9, f10, f11, f12, f13, f14, f15, f16, f17, f18, f19, f20, f21, f22, f23, f24, f25, f26, f27, f28, f29, f30, f31, f32, f33, f34, f35, f36, f37, f38, f39, f40, f41, f42, f43, f44, f45, f46, f47, f48, f49, f50, f51, f52, f53, f54, f55, f56, f57, f58, f59, f60, f61], []⟩ w5 := by
  conv => arg 2; whnf
  have hex : Ext w5 w5.drew := (Below.refl _ _).drew
  have HG := Lib.hid hgm
  have HBR := Lib.hid hbr
  have HE5 := Lib.hid hE5
  clear hgm hbr hE5
  obtain ⟨x1, x2, x3, m0, m1⟩ := HC'.out _ (Ext.refl _)
  refine wp_region_noPanic ?_
  go_region_with (first
    | (go_at_call 44; refine (CSh.out _ (by assumption)).mono ?_; rintro r wa ⟨sn, so, sk, sc', rfl, hs, hk, hwa⟩; have exa : Ext w5 wa := Ext.trans hex hwa; obtain ⟨x1, x2, x3, m0, m1⟩ := HC'.out _ exa)
    | (go_at_call 43; refine (CAd.out _ _ _ _ _ (by assumption) hs hk).mono ?_; rintro r wb ⟨zn, zo, zk, zc, rfl, ht, hwb⟩; have exb : Ext w5 wb := Ext.trans exa hwb; obtain ⟨x1, x2, x3, m0, m1⟩ := HC'.out _ exb; have gz := HG.out.below exb; have f0 := gz.f 0; have f1 := gz.f 1))
  all_goals refine NoPanic.normal ?_
  all_goals
    go_wp2
    go_meet
  all_goals
    have ho := only_set2 wb G (.bool zn) (.slice zo zk zc)
    exact ⟨zn, zo, zk, zc, rfl, gz.stored zn zo zk zc, ht.only_box gz ho, (HE5.out.trans (exb.mono hE5')).trans (ho.below (B := B) (by omega)), (HBR.out.below exb).only ho (by omega)⟩
end Go.Proofs.YtilmighjcjgccaaDoor
