import Derived.Test.YtapcecjbmcoliaaGrLlU35
import Derived.Test.YtapcecjbmcoliaaGrLlU37
namespace Go.Proofs.Ytapcecjbmcoliaa
open Go Go.RowKit

theorem RS.nssAt {w : World} {B p pc : Nat} {po : Option Addr} {rs : List Value} {M : List (List Int)} (h : RS w B (.slice po p pc) rs M) : Nss w po p pc M := by
  obtain ⟨ao, cap, e, h2⟩ := h.nss
  cases e
  exact h2

set_option maxRecDepth 100000 in
set_option maxHeartbeats 8000000 in
theorem peripheral_any (ao : Option Addr) (n cap r : Nat) (a : Nat → Nat → Bool) (w : World) (h : Nss w ao n cap (adjM n a)) (hg : GOk a) (hr : r < n) (hn : n ≤ 200) :
    Calls Try.prog 19 #[.agg #[.slice ao n cap], .int .i64 (r : Int)] w fun e w' => ∃ p : Nat, PerTo n a r p ∧ e = .returned (.int .i64 (p : Int)) ∧ Ext w w' := by
  obtain ⟨O, hrun, hblk⟩ := make_bools n (by omega)
  have HBLK := Lib.hid hblk
  have HRUN := Lib.hid hrun
  clear hblk hrun
  have HH := Lib.hid h
  clear h
  go_enter Try.func19, Try.ntmps19
  go_upto_region 1 with fail
  obtain ⟨V, hV, hEV, b1, -⟩ := gbox_val w (.slice ao n cap)
  rw [← hV]
  clear hV
  obtain ⟨C, hCe⟩ : ∃ C, w.heap.size = C := ⟨_, rfl⟩
  rw [hCe] at b1 ⊢
  have HN := Lib.hid (HH.out.below hEV)
  have HEV := Lib.hid hEV
  have HCV := Lib.hid hCe
  have k0 := b1.c
  have HB := Lib.hid b1
  have HBE := Lib.hid (show ∀ wx, Ext V wx → wx.cell? ⟨C, 0, none⟩ = some (.slice ao n cap) from fun wx hx => (HB.out.low hx HB.out.lt).c)
  clear hCe hEV b1 HB
  have C1 := Lib.hid (levelsG_any ao n cap r a V HN.out hg hr hn)
  clear hg
  go_wp2_with fail
  refine C1.out.mono ?_
  rintro e w2 ⟨lv, rs, rfl, hrs, hE⟩
  obtain ⟨po, pc, rfl, -⟩ := hrs.slE
  have hpl : rs.length = (lev0 n a r).length := by rw [← hrs.len]; simp
  have hp0 := lev0_pos n r a
  have HRS := Lib.hid hrs
  rw [hpl] at HRS ⊢
  have hne : (((lev0 n a r).length : Int) == 0) = false := by rw [beq_eq_false_iff_ne]; omega
  have RE := Lib.hid hE
  clear hrs hE C1 hpl hp0
  obtain ⟨B, hB⟩ : ∃ B, V.heap.size = B := ⟨_, rfl⟩
  rw [hB] at HRS
  have HSB := Lib.hid (show B ≤ w2.heap.size by rw [← hB]; exact RE.out.size)
  clear hB
  generalize hp : (lev0 n a r).length = p at *
  have HP0 := Lib.hid hp
  clear hp
  go_wp2
  go_loopw [1, 5] (fun vv lv wr => ∃ (v p : Nat) (po : Option Addr) (pc : Nat) (rs : List Value), vv = .int .i64 (v : Int) ∧ lv = .slice po p pc ∧ v < n ∧ Hid ((lev0 n a v).length = p) ∧ Hid (RS wr B (.slice po p pc) rs ((lev0 n a v).map castZ)) ∧ Hid (∀ q, PerTo n a v q → PerTo n a r q) ∧ Hid (Ext V wr) ∧ B ≤ wr.heap.size)
    (fun _ lv _ => n + 2 - vlen lv)
  case atStart => exact ⟨r, _, _, _, _, rfl, rfl, hr, HP0, HRS, Lib.hid (fun _ h => h), RE, HSB.out⟩
  case round =>
    clear HRS RE HSB HP0 hne k0
    obtain ⟨v, p, po, pc, rs, rfl, rfl, hv, hp, hrs, hper, hE, hBs⟩ := hrel
    have hp1 : 0 < p := by rw [← hp.out]; exact lev0_pos n v a
    have hpm : p ≤ n + 1 := by rw [← hp.out]; exact lev0_len n v a
    have k0 := HBE.out _ hE.out
    obtain ⟨b, off, rfl, hc⟩ := hrs.out.nssAt.rows hp1
    obtain ⟨ri, ci, k1, hns⟩ := hc (p - 1) (by omega)
    have e1 : ((lev0 n a v).map castZ).getD (p - 1) [] = castZ (lastL n a v) := by
      unfold lastL
      rw [hp.out]
      have h2 : p - 1 < (lev0 n a v).length := by rw [hp.out]; omega
      simp [List.getD, h2]
    rw [e1, castZ_len] at k1 hns
    have hsub : IntKind.i64.wrap ((p : Int) - 1) = ((p - 1 : Nat) : Int) := by rw [IntWalk.i64_in _ (by omega)]; omega
    have hpi : ((p - 1 : Nat) : Int) < (p : Int) := by omega
    have hl0 := lastL_pos (a := a) hv
    have hll : (lastL n a v).length ≤ n := nodup_le ((lev0_ok hv _ (lastL_mem n v a)).2.1.imp (fun h => Nat.ne_of_lt h)) (lastL_lt hv)
    have hvn := nextV_lt (a := a) hv
    obtain ⟨m, hm⟩ : ∃ m, (lastL n a v).length = m := ⟨_, rfl⟩
    rw [hm] at k1 hns hl0 hll
    obtain ⟨W, hW⟩ : ∃ W, wr = W := ⟨_, rfl⟩
    have CL := fun wx (hx : Ext wr wx) => (leastD_any ao ri n cap m ci a (lastL n a v) wx ((HN.out.below hE.out).below hx) (hns.below hx) (lastL_lt hv) hl0 (by omega)).mono (fun e w' (h : e = .returned (.int .i64 ((leastV n a (lastL n a v) : Nat) : Int)) ∧ Ext wx w') => (show e = .returned (.int .i64 ((nextV n a v : Nat) : Int)) ∧ Ext wr w' from ⟨h.1, Ext.trans hx h.2⟩))
    have D0 := Lib.hid (CL wr (Ext.refl _))
    have D1 := Lib.hid (CL wr.drew (Below.drew (Ext.refl _)))
    have D2 := Lib.hid (CL wr.drew.drew (Below.drew (Below.drew (Ext.refl _))))
    have HPER := hper
    have HP := hp
    have HRS := hrs
    have HEW := hE
    clear hc hns e1 hm hW CL hper hp hrs hE
    generalize hx : nextV n a v = x at *
    have HXV := Lib.hid hx
    clear hx
    go_upto_region 4 with fail
    go_cut [6] from 14 to 37 (fun u wx => u = .int .i64 (x : Int) ∧ Hid (Ext wr wx))
    case first =>
      go_region_with (first
        | (go_at_call 46; (with_reducible refine D0.out.mono ?_); rintro e w4 ⟨rfl, hw4⟩)
        | (go_at_call 46; (with_reducible refine D1.out.mono ?_); rintro e w4 ⟨rfl, hw4⟩)
        | (go_at_call 46; (with_reducible refine D2.out.mono ?_); rintro e w4 ⟨rfl, hw4⟩))
      all_goals
        have RG := Lib.hid hw4
        go_wp2
        go_meet
      all_goals exact ⟨rfl, RG⟩
    case rest =>
      obtain ⟨rfl, hE1⟩ := hcut
      clear D0 D1 D2 k0 k1
      have HEX := Lib.hid (Ext.trans HEW.out hE1.out)
      have HXO := Lib.hid (show Ext wc (wc.alloc O) from (Below.refl _ _).alloc (Nat.le_refl _) _)
      have CV := fun Y (hY : Ext wc Y) (hs : Y.heap = (wc.alloc O).heap) => levels_new ao n cap x a O HBLK.out wc (HN.out.below HEX.out) hvn (by omega) Y hY hs
      have D0 := Lib.hid (CV (wc.alloc O) HXO.out rfl)
      have D1 := Lib.hid (CV (wc.alloc O).drew (Below.drew HXO.out) rfl)
      have D2 := Lib.hid (CV (wc.alloc O).drew.drew (Below.drew (Below.drew HXO.out)) rfl)
      have k0 := HBE.out _ HEX.out
      have k0' := HBE.out _ (Ext.trans HEX.out HXO.out)
      have hrun := HRUN.out
      have HBW := Lib.hid (show B ≤ wc.heap.size from Nat.le_trans hBs hE1.out.size)
      clear CV HXO
      go_upto_region 5 with fail
      go_cut [7] from 22 to 37 (fun u wx => ∃ lv rs', u = lv ∧ Hid (RS wx B lv rs' ((lev0 n a x).map castZ)) ∧ Hid (Ext wc wx))
      case first =>
        go_region_with (first
        | (go_at_call 45; (with_reducible refine D0.out.mono ?_); rintro e w4 ⟨v9, rs9, rfl, hrs9, hw4⟩)
        | (go_at_call 45; (with_reducible refine D1.out.mono ?_); rintro e w4 ⟨v9, rs9, rfl, hrs9, hw4⟩)
        | (go_at_call 45; (with_reducible refine D2.out.mono ?_); rintro e w4 ⟨v9, rs9, rfl, hrs9, hw4⟩))
        all_goals
          have RR := Lib.hid (hrs9.mono HBW.out)
          have RG := Lib.hid hw4
          go_wp2
          go_meet
        all_goals exact ⟨_, _, rfl, RR, RG⟩
      case rest =>
        rename World => w5
        obtain ⟨lv, rs2, rfl, hR2, hE2⟩ := hcut
        clear D0 D1 D2 k0 k0' hrun
        obtain ⟨po2, pc2, rfl, -⟩ := hR2.out.slE
        have hpl2 : rs2.length = (lev0 n a x).length := by rw [← hR2.out.len]; simp
        have HR2 := Lib.hid hR2.out
        rw [hpl2] at HR2 ⊢
        obtain ⟨p2, hp2⟩ : ∃ p2, (lev0 n a x).length = p2 := ⟨_, rfl⟩
        have hpm2 : p2 ≤ n + 1 := by rw [← hp2]; exact lev0_len n x a
        rw [hp2] at HR2 ⊢
        have HP2 := Lib.hid hp2
        have RE := Lib.hid (Ext.trans HEX.out hE2.out)
        have RB := Lib.hid (show B ≤ w5.heap.size from Nat.le_trans HBW.out hE2.out.size)
        clear hR2 hpl2 hp2
        by_cases hle : p2 ≤ p
        · have hli : (p2 : Int) ≤ (p : Int) := by omega
          have HRES := Lib.hid (HPER.out v (.stop (by rw [HXV.out, HP2.out, HP.out]; exact hle)))
          have RF := Lib.hid (Ext.trans HEV.out RE.out)
          go_wp2
          go_ret
          exact ⟨v, HRES.out, rfl, RF.out⟩
        · have hli : ¬ (p2 : Int) ≤ (p : Int) := by omega
          have HNX := Lib.hid (show ∀ q, PerTo n a x q → PerTo n a r q from fun q hq => HPER.out q (.step (by rw [HXV.out, HP2.out, HP.out]; exact hle) (by rw [HXV.out]; exact hq)))
          go_wp2
          go_roundw
          case rel => exact ⟨x, p2, po2, pc2, rs2, rfl, rfl, hvn, HP2, HR2, HNX, RE, RB.out⟩
          case measure => simp [vlen]; omega
end Go.Proofs.Ytapcecjbmcoliaa
