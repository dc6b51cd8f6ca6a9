import Derived.Test.YtkomhemjodbkpaaDoorTxU37
import Derived.Test.YtkomhemjodbkpaaDoorTxU39
import Derived.Test.YtkomhemjodbkpaaDoorTxU38
import Derived.Test.YtkomhemjodbkpaaDoorTxU26
import Derived.Deep.LoopGhost
namespace Go.Proofs.YtkomhemjodbkpaaDoor
open Go Go.RowKit
open Go.Lib (decDigits)

/-- the text of an integer -/
def texI (x : Int) : List UInt8 := (if x < 0 then [45] else []) ++ decDigits x.natAbs
/-- the digits that are made, the last one first -/
def Made (N v : Nat) (dl : List UInt8) : Prop := (if v = 0 then dl.reverse else decDigits v ++ dl.reverse) = decDigits N
theorem Made.start {N : Nat} (h : N ≠ 0) : Made N N [] := by unfold Made; rw [if_neg h]; simp
theorem Made.step {N v : Nat} {dl : List UInt8} (h : Made N v dl) (hv : v ≠ 0) : Made N (v / 10) (dl ++ [UInt8.ofNat (48 + v % 10)]) := by
  unfold Made at h ⊢
  rw [if_neg hv] at h
  rw [List.reverse_append]
  split
  · rename_i h0
    rw [← h, dec_small (by omega), show v % 10 = v by omega]
    simp
  · rename_i h0
    rw [← h, dec_big (u := v) (by omega), List.append_assoc]
    simp
theorem Made.len {N v : Nat} {dl : List UInt8} (h : Made N v dl) : dl.length ≤ (decDigits N).length := by
  unfold Made at h
  rw [← h]
  split
  · simp
  · rw [List.length_append, List.length_reverse]; omega

set_option maxRecDepth 100000 in
set_option maxHeartbeats 8000000 in
theorem refFormat_any (nb : Bool) (ao : Option Addr) (n ca : Nat) (x : Int) (w : World) (h : Bg w nb ao n ca x) (hlen : (decDigits x.natAbs).length ≤ 100000) (t : ByteArray) (ht : (⟨(texI x).toArray⟩ : ByteArray) = t) :
    Calls Tryd.prog 11 #[.agg #[.bool nb, .slice ao n ca]] w fun e w' => e = .returned (.string t) ∧ Below w.heap.size w w' := by
  have HT := Lib.hid ht
  have HLEN := Lib.hid hlen
  clear ht hlen
  go_enter Tryd.func11, Tryd.ntmps11
  go_upto_region 1 with fail
  obtain ⟨W, hW, hB, hx, hsz⟩ := box_new w nb ao n ca
  rw [← hW]
  clear hW
  generalize hBe : w.heap.size = B at *
  have HBe := Lib.hid hBe
  have hg := (show Bg W nb ao n ca x from by
    obtain ⟨⟨zs, h1, h2⟩, h3⟩ := h
    exact ⟨⟨zs, h1.below (by rw [hBe]; exact hB), h2⟩, h3⟩)
  have N1 := Lib.hid (refNorm_any nb ao n ca x W hg)
  clear h hg
  have k0 := hx.c0
  have k1 := hx.c1
  go_wp2_with fail
  refine N1.out.mono ?_
  rintro e w1 ⟨nr, ro, k, cr, rfl, hbn, hkn, hB1⟩
  have hx1 := hx.below hB1
  have hBB : Below B w w1 := hB.trans (hB1.mono (by omega))
  have hs1 := hB1.size
  clear hx hB hB1 k0 k1 N1 hBe
  have q2 := hx1.f 0
  have q3 := hx1.f 1
  have k0 := hx1.c0
  have k1 := hx1.c1
  have hst := hx1.stored nr ro k cr
  have hsl := hbn.sl.past_box hx1 (only_set2 w1 B (.bool nr) (.slice ro k cr))
  have HNG := Lib.hid hbn.neg
  have hbl := hBB.trans ((only_set2 w1 B (.bool nr) (.slice ro k cr)).below (Nat.le_refl _))
  have hsz2 : B + 1 ≤ ((w1.setCell ⟨B, 0, none⟩ (.bool nr)).setCell ⟨B, 1, none⟩ (.slice ro k cr)).heap.size := by simp [World.setCell]; omega
  clear hx1 hBB hbn hkn
  go_upto_region 2 with fail
  generalize (w1.setCell ⟨B, 0, none⟩ (.bool nr)).setCell ⟨B, 1, none⟩ (.slice ro k cr) = V at *
  clear q2 q3 k0 k1 hs1 hsz
  have k0 := hst.c0
  have k1 := hst.c1
  obtain ⟨N, hN⟩ : ∃ N, x.natAbs = N := ⟨_, rfl⟩
  rw [hN] at hsl HLEN
  have hng := HNG.out
  clear HNG
  have hkl := hsl.len
  have hz := len_zero_iff hkl
  have HTN := Lib.hid (show (⟨((if nr then [45] else []) ++ decDigits N).toArray⟩ : ByteArray) = t by
    rw [← HT.out]; unfold texI; rw [hN]
    have : (if nr = true then [(45 : UInt8)] else []) = if x < 0 then [45] else [] := by
      rw [hng]; by_cases h : x < 0
      · rw [decide_eq_true h, if_pos h]; rfl
      · rw [decide_eq_false h, if_neg h]; rfl
    rw [this])
  have HNEG := Lib.hid (show N = 0 → nr = false from fun h => by rw [hng]; exact decide_eq_false (by omega))
  clear hng hN HT hkl
  by_cases h0 : k = 0
  · subst h0
    have HR := Lib.hid (show (⟨#[48]⟩ : ByteArray) = t by
      rw [← HTN.out, HNEG.out (hz.1 rfl), hz.1 rfl, dec_small (by omega)]; rfl)
    have HBL := Lib.hid hbl
    clear hbl hz
    go_wp2
    go_ret
    rw [HBe.out]
    exact ⟨by rw [HR.out]; rfl, HBL.out⟩
  · have hk0 : ((k : Int) == 0) = false := beq_eq_false_iff_ne.2 (by omega)
    have hk00 : ¬ (k : Int) = 0 := by omega
    have hNp : N ≠ 0 := fun h => h0 (hz.2 h)
    have HNP := Lib.hid hNp
    have hCs : V.heap.size ≤ V.heap.size := Nat.le_refl _
    obtain ⟨C, hC⟩ : ∃ C, V.heap.size = C := ⟨_, rfl⟩
    have hCl : C ≤ V.heap.size := by omega
    have HKV := Lib.hid (show ∀ wx, Below C V wx → Box wx B nr ro k cr ∧ Below B w wx from fun wx h => by rw [← hC] at h; exact ⟨hst.below h, hbl.trans (h.mono (by omega))⟩)
    clear hCs hC hz hNp hbl hst hsz2
    go_wp2
    go_loopg [3, 4, 5, 6, 7] N (fun gk dv mv _ _ _ wr => ∃ (v : Nat) (dl : List UInt8) (mo : Option Addr) (m cap : Nat), v ≤ gk ∧ mv = .slice mo m cap ∧ Sl wr mo m cap (limbs v) ∧ OwnB wr C dv dl ∧ Hid (Made N v dl) ∧ Below C V wr ∧ C ≤ wr.heap.size)
    case atStart => exact ⟨N, [], ro, k, cr, Nat.le_refl _, rfl, hsl, OwnB.nil _ _, Made.start HNP.out, Below.refl _ _, hCl⟩
    case round =>
      clear hsl k0 k1
      obtain ⟨v, dl, mo, m, cap, hvg, rfl, hsl, hown, hmd, hbw, hws⟩ := hrel
      have hml := hsl.len
      have hmz := len_zero_iff hml
      have hmb := hsl.big
      have hdl : dl.length ≤ 100000 := Nat.le_trans hmd.len HLEN.out
      by_cases hlt : 0 < m
      · have hltI : (0 : Int) < (m : Int) := by omega
        have hv0 : v ≠ 0 := fun h => by have := hmz.2 h; omega
        have HV0 := Lib.hid hv0
        have hvd : v / 10 < gk := by omega
        have HML := Lib.hid hml
        clear hmz hv0 hml
        go_wp2_with (refine wpList_make_u32 _ rfl _ _ rfl _ m rfl rfl rfl hmb ?_)
        intro w1' hq1 hw1'
        have hsa := hsl.cells.stay_below hw1' (Nat.le_refl _)
        have hwa := hsl.wf
        have hdlast := fun k hk => (World.ownsRow.lt hown k hk).2
        have hown1 := hown.below_of hw1'
        have hbw1 := hbw.trans (hw1'.mono hws)
        have hws1 : C ≤ w1'.heap.size := Nat.le_trans hws hw1'.size
        have hCg : C ≤ wr.heap.size := hws
        generalize hgq : wr.heap.size = g at *
        have HDL := Lib.hid hdlast
        clear hgq hsl hown hbw hws hdlast hw1'
        go_wp2
        go_loopw [5, 7] (fun rv iv wx => ∃ (k : Nat) (rr : Int) (Q : List Int), k ≤ m ∧ iv = .int .i64 ((k : Int) - 1) ∧ rv = .int .u64 rr ∧ Quot (limbs v) Q k rr 10 ∧ Blk wx g Q ∧ Only g w1' wx)
          (fun _ iv _ => (intOf iv + 1).toNat)
        case atStart => exact ⟨m, 0, _, Nat.le_refl _, rfl, rfl, ⟨by simp [HML.out], Wf.replicate _, by omega, by omega, by rw [List.drop_eq_nil_of_le (by rw [HML.out]; exact Nat.le_refl _), List.drop_eq_nil_of_le (by simp)]; simp [num]⟩, hq1, Only.refl g w1'⟩
        case round =>
          obtain ⟨k, rr, Q, hk, rfl, rfl, hQ, hbk, ho⟩ := hrel
          have HQ := Lib.hid hQ; clear hQ
          by_cases hkt : 0 < k
          · obtain ⟨j, rfl⟩ : ∃ j, k = j + 1 := ⟨k - 1, by omega⟩
            obtain ⟨bb, ob, rfl, hcb⟩ := hsa _ ho (by rw [HML.out]; omega)
            have c1 := hcb j (by rw [HML.out]; omega)
            clear hcb
            have hxr := hwa.getD j
            obtain ⟨y, hy⟩ : ∃ y, (limbs v).getD j 0 = y := ⟨_, rfl⟩
            rw [hy] at c1 hxr
            have HY := Lib.hid hy; clear hy
            obtain ⟨y0, y1⟩ := hxr
            have r0 := HQ.out.2.2.1
            have r1 := HQ.out.2.2.2.1
            have c2 := hbk.cell j (by rw [HQ.out.1, HML.out]; omega)
            have c3 := hbk.frozen j
            have ej : ((j + 1 : Nat) : Int) - 1 = (j : Int) := by omega
            rw [ej]
            clear ej
            have hsh : IntKind.u64.wrap (rr * 4294967296) = rr * 4294967296 := by rw [IntKind.wrap_u64]; omega
            have hor := or_hl r0 (by omega) y0 y1
            have hq0 : 0 ≤ (rr * 4294967296 + y) / 10 := by omega
            have hq1' : (rr * 4294967296 + y) / 10 < 4294967296 := by omega
            have st := HQ.out.step (by rw [HML.out]; omega) (by rw [HY.out]; exact ⟨hq0, hq1'⟩) (by omega)
            rw [HY.out] at st
            have ST := Lib.hid st
            have hcv : IntKind.u32.wrap ((rr * 4294967296 + y) / 10) = (rr * 4294967296 + y) / 10 := by rw [IntKind.wrap_u32]; omega
            clear st
            go_wp2
            go_roundw
            case rel => exact ⟨j, _, _, by omega, by go_num, rfl, ST.out, hbk.set _ _, ho.setCell _ _⟩
            case measure => simp [intOf] <;> omega
          · obtain rfl : k = 0 := by omega
            have hlq : Q.length = m := by rw [HQ.out.1, HML.out]
            have hqw := HQ.out.2.1
            have r0 := HQ.out.2.2.1
            have r1 := HQ.out.2.2.2.1
            have he := HQ.out.2.2.2.2
            rw [List.drop_zero, List.drop_zero, num_limbs] at he
            have hqn := num_nonneg hqw
            have hvq : (num Q).toNat = v / 10 := by omega
            have hrr : rr = ((v % 10 : Nat) : Int) := by omega
            subst hrr
            have HMS := Lib.hid (hmd.step HV0.out)
            have hE8 : ((48 + v % 10 : Nat) : Int) = ((UInt8.ofNat (48 + v % 10)).toNat : Int) := by rw [dig_nat (by omega)]
            generalize UInt8.ofNat (48 + v % 10) = y8 at HMS hE8
            have hw8 : IntKind.u64.wrap (48 + ((v % 10 : Nat) : Int)) = ((48 + v % 10 : Nat) : Int) := by rw [IntKind.wrap_u64]; omega
            have hw9 : IntKind.u8.wrap ((48 + v % 10 : Nat) : Int) = ((48 + v % 10 : Nat) : Int) := by rw [IntKind.wrap_u8]; omega
            have hsq := hbk.sl hqw hlq (by omega) (Nat.le_refl _)
            have hown2 := hown1.keep (w' := wr) (fun k hk => ho.block k (by have := HDL.out k hk; omega))
            have hbw2 : Below C V wr := hbw1.trans (ho.below hCg)
            have hws2 : C ≤ wr.heap.size := by rw [ho.size]; exact hws1
            have HGB := Lib.hid hbk
            have HQW := Lib.hid hqw
            have HLQ := Lib.hid hlq
            have HVQ := Lib.hid hvq
            have hgl : g < wr.heap.size := hbk.lt
            have hdl1 : dl.length ≤ 1000000 := by omega
            have hdne : ∀ k, u3.ownBlock = some k → k ≠ g := fun k hk => by have := HDL.out k hk; omega
            clear hqw he hvq hlq hbk ho hsa hown1 hbw1 hws1 hq1 hwa hmd HQ hsq
            go_wp2_with (at_builtin; refine wpList_append_u8 _ rfl (.tmp 47) (.tmp 51) rfl C _ dl y8 _ hE8 rfl rfl hown2 hws2 hdl1 ?_)
            intro v2 w2 hown3 hB3 hold
            have hblk2 : Blk w2 g Q := by unfold Blk; rw [hold g hgl (fun hh => hdne g hh rfl)]; exact HGB.out
            have hbw3 := hbw2.trans hB3
            have hws3 : C ≤ w2.heap.size := Nat.le_trans hws2 hB3.size
            have TR := Lib.hid (refTrim_any (some ⟨g, 0, none⟩) m m Q w2 (hblk2.sl HQW.out HLQ.out (by omega) (Nat.le_refl _)))
            have HO3 := Lib.hid hown3
            clear hown2 hown3 hB3 hold hblk2 hbw2 hws2 hE8 hw8 hw9 hdne
            go_wp2_with fail
            refine TR.out.mono ?_
            rintro e w4 ⟨ro', k', rc', rfl, hs4, -, hB4⟩
            have HO4 := Lib.hid (HO3.out.below_of hB4)
            have hws4 : C ≤ w4.heap.size := Nat.le_trans hws3 hB4.size
            have hbw4 := hbw3.trans (hB4.mono hws3)
            rw [HVQ.out] at hs4
            have HS4 := Lib.hid hs4
            clear hs4 TR HO3 hB4 hbw3 hws3
            go_wp2
            go_roundg (v / 10)
            case measure => exact hvd
            case rel => exact ⟨v / 10, dl ++ [y8], ro', k', rc', Nat.le_refl _, rfl, HS4.out, HO4.out, HMS.out, hbw4, hws4⟩
      · have hltI : ¬ (0 : Int) < (m : Int) := by omega
        obtain rfl : m = 0 := by omega
        obtain rfl : v = 0 := hmz.1 rfl
        have hrev : dl.reverse = decDigits N := by have h := hmd; unfold Made at h; exact h
        have hdne : dl ≠ [] := fun h => by rw [h] at hrev; exact dec_ne N hrev.symm
        obtain ⟨g0, cap0, rfl, -, hg0, hcap0, hcell⟩ := hown.form hdne
        obtain ⟨L, hL⟩ : ∃ L, dl.length = L := ⟨_, rfl⟩
        rw [hL] at hcell hcap0 ⊢
        have HLL := Lib.hid hL
        have HREV := Lib.hid hrev
        have hLpos : 0 < L := by rw [← hL]; exact List.length_pos_iff.2 hdne
        have hL9 : L ≤ 100000 := by omega
        clear hmz hml hmd hsl hrev hdne hL hdl hmb
        obtain ⟨D, hD⟩ : ∃ D, wr.heap.size = D := ⟨_, rfl⟩
        have HCELL := Lib.hid (show ∀ wx, Below D wr wx → ∀ j, j < L → wx.cell? ⟨g0, j, none⟩ = some (.int .u8 ((dl.getD j 0).toNat : Int)) from fun wx h j hj => by
          rw [← hD] at h; rw [h.cell (p := ⟨g0, j, none⟩) hg0]; exact hcell j hj)
        have hDl : D ≤ wr.heap.size := by omega
        obtain ⟨bx, hbB⟩ := HKV.out _ hbw
        have k0 := bx.c0
        have HBB := Lib.hid hbB
        have hBD : B ≤ D := by have := bx.lt; omega
        clear hcell hown hbw hD bx hbB
        cases hnr : nr with
        | false =>
          subst hnr
          go_wp2
          go_loopw [8, 9] (fun ov iv wx => ∃ k : Nat, k ≤ L ∧ iv = .int .i64 ((k : Int) - 1) ∧ OwnB wx D ov (([] : List UInt8) ++ (dl.drop k).reverse) ∧ Below D wr wx ∧ D ≤ wx.heap.size) (fun _ iv _ => (intOf iv + 1).toNat)
          case atStart => exact ⟨L, Nat.le_refl _, rfl, by rw [List.drop_eq_nil_of_le (by rw [HLL.out]; exact Nat.le_refl _)]; exact OwnB.nil _ _, Below.refl _ _, hDl⟩
          case round =>
            obtain ⟨k, hk, rfl, ho, hb, hs⟩ := hrel
            by_cases hk0 : 0 < k
            · obtain ⟨j, rfl⟩ : ∃ j, k = j + 1 := ⟨k - 1, by omega⟩
              have c1 := HCELL.out _ hb j (by omega)
              have ej : ((j + 1 : Nat) : Int) - 1 = (j : Int) := by omega
              rw [ej]
              clear ej
              obtain ⟨y, hy⟩ : ∃ y, dl.getD j 0 = y := ⟨_, rfl⟩
              rw [hy] at c1
              have HNX := Lib.hid (show ([] : List UInt8) ++ (dl.drop j).reverse = (([] : List UInt8) ++ (dl.drop (j + 1)).reverse) ++ [y] by
                have hj : j < dl.length := by rw [HLL.out]; omega
                rw [List.drop_eq_getElem_cons hj, List.reverse_cons, List.append_assoc]
                rw [← hy]; simp [List.getD, hj])
              have hlen : (([] : List UInt8) ++ (dl.drop (j + 1)).reverse).length ≤ 1000000 := by simp; have := HLL.out; omega
              clear hy
              go_wp2_with (at_builtin; refine wpList_append_u8 _ rfl (.tmp 67) (.tmp 72) rfl D _ (([] : List UInt8) ++ (dl.drop (j + 1)).reverse) y _ rfl rfl rfl ho hs hlen ?_)
              intro v3 w3 ho3 hB3 hold3
              have HO3 := Lib.hid ho3
              have hs3 : D ≤ w3.heap.size := Nat.le_trans hs hB3.size
              have hb3 := hb.trans hB3
              clear ho ho3 hB3 hold3 c1
              go_wp2
              go_roundw
              case rel => exact ⟨j, by omega, by go_num, by rw [HNX.out]; exact HO3.out, hb3, hs3⟩
              case measure => simp [intOf] <;> omega
            · obtain rfl : k = 0 := by omega
              rw [List.drop_zero, HREV.out] at ho
              have htx := ho.text (by intro h; exact dec_ne N (List.append_eq_nil_iff.1 h).2)
              have htt : (⟨(([] : List UInt8) ++ decDigits N).toArray⟩ : ByteArray) = t := HTN.out
              rw [htt] at htx
              have HBF := Lib.hid (HBB.out.trans (hb.mono hBD))
              clear ho htt
              go_wp2
              go_ret
              rw [HBe.out]
              exact ⟨rfl, HBF.out⟩
        | true =>
          subst hnr
          go_wp2_with (at_builtin; refine wpList_append_u8 _ rfl (.tmp 57) (.tmp 58) rfl D _ [] 45 45 (by decide) rfl rfl (OwnB.nil _ _) hDl (by simp) ?_)
          intro v2 w2 ho2 hB2 hold
          have hs2 : D ≤ w2.heap.size := Nat.le_trans hDl hB2.size
          clear hold k0
          go_wp2
          go_loopw [8, 9] (fun ov iv wx => ∃ k : Nat, k ≤ L ∧ iv = .int .i64 ((k : Int) - 1) ∧ OwnB wx D ov ([(45 : UInt8)] ++ (dl.drop k).reverse) ∧ Below D wr wx ∧ D ≤ wx.heap.size) (fun _ iv _ => (intOf iv + 1).toNat)
          case atStart => exact ⟨L, Nat.le_refl _, rfl, by rw [List.drop_eq_nil_of_le (by rw [HLL.out]; exact Nat.le_refl _)]; exact ho2, hB2, hs2⟩
          case round =>
            obtain ⟨k, hk, rfl, ho, hb, hs⟩ := hrel
            by_cases hk0 : 0 < k
            · obtain ⟨j, rfl⟩ : ∃ j, k = j + 1 := ⟨k - 1, by omega⟩
              have c1 := HCELL.out _ hb j (by omega)
              have ej : ((j + 1 : Nat) : Int) - 1 = (j : Int) := by omega
              rw [ej]
              clear ej
              obtain ⟨y, hy⟩ : ∃ y, dl.getD j 0 = y := ⟨_, rfl⟩
              rw [hy] at c1
              have HNX := Lib.hid (show [(45 : UInt8)] ++ (dl.drop j).reverse = ([(45 : UInt8)] ++ (dl.drop (j + 1)).reverse) ++ [y] by
                have hj : j < dl.length := by rw [HLL.out]; omega
                rw [List.drop_eq_getElem_cons hj, List.reverse_cons, List.append_assoc]
                rw [← hy]; simp [List.getD, hj])
              have hlen : ([(45 : UInt8)] ++ (dl.drop (j + 1)).reverse).length ≤ 1000000 := by simp; have := HLL.out; omega
              clear hy
              go_wp2_with (at_builtin; refine wpList_append_u8 _ rfl (.tmp 67) (.tmp 72) rfl D _ ([(45 : UInt8)] ++ (dl.drop (j + 1)).reverse) y _ rfl rfl rfl ho hs hlen ?_)
              intro v3 w3 ho3 hB3 hold3
              have HO3 := Lib.hid ho3
              have hs3 : D ≤ w3.heap.size := Nat.le_trans hs hB3.size
              have hb3 := hb.trans hB3
              clear ho ho3 hB3 hold3 c1
              go_wp2
              go_roundw
              case rel => exact ⟨j, by omega, by go_num, by rw [HNX.out]; exact HO3.out, hb3, hs3⟩
              case measure => simp [intOf] <;> omega
            · obtain rfl : k = 0 := by omega
              rw [List.drop_zero, HREV.out] at ho
              have htx := ho.text (by intro h; exact dec_ne N (List.append_eq_nil_iff.1 h).2)
              have htt : (⟨([(45 : UInt8)] ++ decDigits N).toArray⟩ : ByteArray) = t := HTN.out
              rw [htt] at htx
              have HBF := Lib.hid (HBB.out.trans (hb.mono hBD))
              clear ho htt
              go_wp2
              go_ret
              rw [HBe.out]
              exact ⟨rfl, HBF.out⟩
end Go.Proofs.YtkomhemjodbkpaaDoor
