import Derived.Test.YthicfkeiggcjjaaGreatDoorEcSlU21
import Derived.Test.YthicfkeiggcjjaaGreatDoorEcSlU18
import Derived.Test.YthicfkeiggcjjaaGreatDoorEcSlU25
import Derived.Deep.CutRange
import Derived.RegionTactic
import Derived.Test.YthicfkeiggcjjaaGreatDoorEcSlU15
import Derived.Test.YthicfkeiggcjjaaGreatDoorEcSlU9
namespace Go.Proofs.YthicfkeiggcjjaaGreatDoor
open Go Go.RowKit

theorem OZ.sl {w : World} {B : Nat} {v : Value} {L : List Int} (h : OZ w B v L) : ∃ ao cap, v = .slice ao L.length cap ∧ Ns w ao L.length cap L := by
  by_cases h0 : L = []
  · subst h0
    obtain ⟨h1, h2⟩ := h
    rcases h2 with ⟨rfl, _⟩ | ⟨g, cap, cur, rfl, hb, hg, hn, hm, hs, ht⟩
    · exact ⟨none, 0, rfl, rfl, Nat.le_refl _, fun h => absurd h (by simp)⟩
    · exact ⟨_, cap, rfl, rfl, hn, fun h => absurd h (by simp)⟩
  · exact h.ns h0

end Go.Proofs.YthicfkeiggcjjaaGreatDoor

namespace Go.Proofs.YthicfkeiggcjjaaGreatDoor
open Go Go.RowKit

set_option maxRecDepth 100000 in
set_option maxHeartbeats 2000000 in
theorem ints_any (ao bo : Option Addr) (n m ca cb : Nat) (l k : List Int) (w : World) (ha : Ns w ao n ca l) (hb : Ns w bo m cb k) (hn : n ≤ 1000000) :
    Calls Tryz.prog 16 #[.slice ao n ca, .slice bo m cb] w fun e w' => e = .returned (.bool (decide (l = k))) ∧ Ext w w' := by
  have HA := Lib.hid ha
  have HB := Lib.hid hb
  have HLA := Lib.hid ha.len
  have HLB := Lib.hid hb.len
  obtain ⟨R, hR⟩ : ∃ R, decide (l = k) = R := ⟨_, rfl⟩
  rw [hR]
  have HR := Lib.hid hR
  clear hR ha hb
  by_cases hnm : n = m
  · subst hnm
    go_enter Tryz.func16, Tryz.ntmps16
    go_wp2
    go_loopw [5] (fun iv wr => ∃ j : Nat, j ≤ n ∧ iv = .int .i64 (j : Int) ∧ Hid (∀ i, i < j → l.getD i 0 = k.getD i 0) ∧ Ext w wr)
      (fun iv _ => n - (intOf iv).toNat)
    case atStart => exact ⟨0, Nat.zero_le _, rfl, Lib.hid (fun i h => absurd h (Nat.not_lt_zero _)), Ext.refl w⟩
    case round =>
      obtain ⟨j, hj, rfl, HE, hEx⟩ := hrel
      have HEX := Lib.hid hEx
      have HEX1 := Lib.hid (HEX.out.trans (Below.refl _ _).drew)
      by_cases hlt : j < n
      · obtain ⟨b1, o1, rfl, hc1⟩ := (HA.out.below hEx).cells (by omega)
        obtain ⟨b2, o2, rfl, hc2⟩ := (HB.out.below hEx).cells (by omega)
        have k1 := hc1 j hlt
        have k2 := hc2 j hlt
        obtain ⟨x, hx⟩ : ∃ x, l.getD j 0 = x := ⟨_, rfl⟩
        obtain ⟨y, hy⟩ : ∃ y, k.getD j 0 = y := ⟨_, rfl⟩
        rw [hx] at k1
        rw [hy] at k2
        have HXY := Lib.hid (And.intro hx hy)
        have hji : (j : Int) < (n : Int) := by omega
        clear hc1 hc2 hx hy hEx
        go_upto_region 6 with fail
        first | go_region | fail "r6"
        have HEX2 := Lib.hid (show Ext w wr.drew from HEX1.out)
        by_cases hxy : x = y
        · subst hxy
          have HE2 := Lib.hid (show ∀ i, i < j + 1 → l.getD i 0 = k.getD i 0 from fun i hi => by
            rcases Nat.lt_or_ge i j with h | h
            · exact HE.out i h
            · obtain rfl : i = j := by omega
              rw [HXY.out.1, HXY.out.2])
          go_wp2
          go_roundw
          case rel => exact ⟨j + 1, by omega, by go_num, HE2, HEX2.out⟩
          case measure => simp [intOf]; omega
        · have hr : R = false := by
            rw [← HR.out]
            refine decide_eq_false fun e => hxy ?_
            rw [← HXY.out.1, ← HXY.out.2, e]
          subst hr
          go_wp2
          go_ret
          exact ⟨rfl, HEX2.out⟩
      · obtain rfl : j = n := by omega
        have hr : R = true := by
          rw [← HR.out]
          refine decide_eq_true (List.ext_getElem (by rw [HLA.out, HLB.out]) fun i h1 h2 => ?_)
          have := HE.out i (by rw [← HLA.out]; exact h1)
          simpa [List.getD, h1, h2] using this
        subst hr
        clear HE hEx
        go_wp2
        go_ret
        exact ⟨rfl, HEX.out⟩
  · have hr : R = false := by
      rw [← HR.out]
      refine decide_eq_false fun e => hnm ?_
      rw [← HLA.out, ← HLB.out, e]
    subst hr
    have hnm' : (n : Int) ≠ (m : Int) := by omega
    go_enter Tryz.func16, Tryz.ntmps16
    go_wp2
    go_ret
    exact ⟨rfl, Ext.refl _⟩
end Go.Proofs.YthicfkeiggcjjaaGreatDoor

namespace Go.Proofs.YthicfkeiggcjjaaGreatDoor
open Go Go.RowKit

theorem crtStep_is (X N r p z1 z2 z3 v k : Int) (h1 : r % p = z1) (h2 : X % p = z2) (h3 : (z1 - z2) % p = z3) (h4 : invZ (N % p) p = v) (h5 : z3 * v % p = k) : crtStep X N r p = X + N * k := by
  subst h1 h2 h3 h4 h5; rfl

theorem bg_ent {w : World} {nb : Bool} {ao : Option Addr} {n ca : Nat} {x : Int} (h : Bg w nb ao n ca x) (k : Nat) (hn : n ≤ k) (hk : k ≤ 100000) : Ent.Ok w ⟨.agg #[.bool nb, .slice ao n ca], x, k, false⟩ := by
  obtain ⟨⟨zs, hs, hx⟩, _⟩ := h
  rw [hx]
  exact ok_raw hs k hn hk
theorem residue_ext (a p : Int) (w : World) (h0 : 0 < p) (hp : p ≤ 2147483648) : Calls Tryz.prog 38 #[.int .i64 a, .int .i64 p] w fun e w' => e = .returned (.int .i64 (a % p)) ∧ Ext w w' :=
  (residue_any a p w h0 hp).mono fun _ _ ⟨h, hw⟩ => ⟨h, by rw [hw]; exact Ext.refl _⟩
theorem inverse_ext (a p : Int) (w : World) (h0 : 0 ≤ a) (h1 : a < p) (hp1 : 1 < p) (hp : p ≤ 2147483647) : Calls Tryz.prog 43 #[.int .i64 a, .int .i64 p] w fun e w' => e = .returned (.int .i64 (invZ a p)) ∧ Ext w w' :=
  (inverseZ a p w h0 h1 hp1 hp).mono fun _ _ ⟨h, hw⟩ => ⟨h, by rw [hw]; exact Ext.refl _⟩

set_option maxRecDepth 100000 in
set_option maxHeartbeats 8000000 in
theorem extend_any (xn nn : Bool) (xo no : Option Addr) (xk nk xc nc : Nat) (X N r p : Int) (w : World) (ha : Bg w xn xo xk xc X) (hb : Bg w nn no nk nc N) (hx90 : xk ≤ 90) (hn90 : nk ≤ 90) (hp1 : 1 < p) (hp : p ≤ 2147483647) :
    Calls Tryz.prog 46 #[.agg #[.bool xn, .slice xo xk xc], .agg #[.bool nn, .slice no nk nc], .int .i64 r, .int .i64 p] w fun e w' => ∃ rn ro rk rc, e = .returned (.agg #[.bool rn, .slice ro rk rc]) ∧ Bn w' rn ro rk rc (crtStep X N r p) ∧ Ext w w' := by
  have b10 := Int.emod_nonneg r (show p ≠ 0 by omega)
  have b11 := Int.emod_lt_of_pos r (show 0 < p by omega)
  have b20 := Int.emod_nonneg X (show p ≠ 0 by omega)
  have b21 := Int.emod_lt_of_pos X (show 0 < p by omega)
  have b40 := Int.emod_nonneg N (show p ≠ 0 by omega)
  have b41 := Int.emod_lt_of_pos N (show 0 < p by omega)
  obtain ⟨z1, h1⟩ : ∃ z1, r % p = z1 := ⟨_, rfl⟩
  obtain ⟨z2, h2⟩ : ∃ z2, X % p = z2 := ⟨_, rfl⟩
  obtain ⟨z4, h4⟩ : ∃ z4, N % p = z4 := ⟨_, rfl⟩
  obtain ⟨v, hv⟩ : ∃ v, invZ (N % p) p = v := ⟨_, rfl⟩
  have bv := invZ_lt (a := N % p) (p := p) (by omega)
  rw [hv] at bv
  rw [h1] at b10 b11
  rw [h2] at b20 b21
  rw [h4] at b40 b41
  have b30 := Int.emod_nonneg (z1 - z2) (show p ≠ 0 by omega)
  have b31 := Int.emod_lt_of_pos (z1 - z2) (show 0 < p by omega)
  obtain ⟨z3, h3⟩ : ∃ z3, (z1 - z2) % p = z3 := ⟨_, rfl⟩
  rw [h3] at b30 b31
  obtain ⟨d, hd⟩ : ∃ d, z1 - z2 = d := ⟨_, rfl⟩
  have hwd : IntKind.i64.wrap (z1 - z2) = d := by rw [hd]; exact IntWalk.i64_in _ (by omega)
  have hm0 : 0 ≤ z3 * v := Int.mul_nonneg b30 bv.1
  have hm1 : z3 * v ≤ 2147483647 * 2147483647 := Int.mul_le_mul (by omega) (by omega) bv.1 (by omega)
  obtain ⟨m, hm⟩ : ∃ m, z3 * v = m := ⟨_, rfl⟩
  rw [hm] at hm0 hm1
  have hwm : IntKind.i64.wrap (z3 * v) = m := by rw [hm]; exact IntWalk.i64_in _ (by omega)
  have b50 := Int.emod_nonneg m (show p ≠ 0 by omega)
  have b51 := Int.emod_lt_of_pos m (show 0 < p by omega)
  obtain ⟨k, hk⟩ : ∃ k, m % p = k := ⟨_, rfl⟩
  have htm : m.tmod p = k := by rw [Int.tmod_eq_emod_of_nonneg hm0]; exact hk
  rw [hk] at b50 b51
  rw [crtStep_is X N r p z1 z2 z3 v k h1 h2 h3 hv (by rw [hm]; exact hk)]
  have hp0 : 0 < p := by omega
  have hpz : (p == 0) = false := by apply beq_eq_false_iff_ne.2; omega
  go_enter Tryz.func46, Tryz.ntmps46
  go_upto_region 1 with fail
  obtain ⟨W, hW, hB, hx, hy, hr, hz⟩ := boxes2 w xn xo xk xc nn no nk nc
  rw [← hW]
  clear hW
  have ha := ha.below hB
  have hb := hb.below hB
  have C1 := Lib.hid (fun wx => residue_ext r p wx (by omega) (by omega))
  have C2 := Lib.hid (fun wx (h : Ext W wx) => remainder_any xn xo xk xc X p wx (ha.below h) (by omega) (by omega) (by omega))
  have C3 := Lib.hid (fun wx => residue_ext d p wx (by omega) (by omega))
  have C4 := Lib.hid (fun wx (h : Ext W wx) => remainder_any nn no nk nc N p wx (hb.below h) (by omega) (by omega) (by omega))
  have C5 := Lib.hid (fun wx => inverse_ext z4 p wx b40 b41 hp1 hp)
  rw [h1] at C1
  rw [h2] at C2
  rw [← hd, h3] at C3
  rw [h4] at C4
  rw [← h4, hv] at C5
  rw [h4] at C5
  rw [hd] at C3
  have HA := Lib.hid (show ∀ wx, Ext W wx → Bg wx xn xo xk xc X from fun wx h => ha.below h)
  have HB := Lib.hid (show ∀ wx, Ext W wx → Bg wx nn no nk nc N from fun wx h => hb.below h)
  have HK := Lib.hid (show 0 ≤ k ∧ k < p ∧ p ≤ 2147483647 from ⟨b50, b51, hp⟩)
  generalize hBe : w.heap.size = B at *
  have HBE := Lib.hid hBe
  have HE := Lib.hid (show Ext w W by rw [← hBe] at hB; exact hB)
  have hcells : ∀ wx, Ext W wx → (wx.cell? ⟨B, 0, none⟩ = some (.bool xn) ∧ wx.cell? ⟨B, 1, none⟩ = some (.slice xo xk xc)) ∧ (wx.cell? ⟨B + 1, 0, none⟩ = some (.bool nn) ∧ wx.cell? ⟨B + 1, 1, none⟩ = some (.slice no nk nc)) := fun wx h => ⟨⟨(hx.below h).c0, (hx.below h).c1⟩, ⟨(hy.below h).c0, (hy.below h).c1⟩⟩
  have HC := Lib.hid hcells
  have HR := Lib.hid (show ∀ wx, Ext W wx → Box wx (B + 1 + 1) false none 0 0 from fun wx h => hr.below h)
  have HBz := Lib.hid (show B + 1 + 1 < W.heap.size from hr.lt)
  have EX := bg_ent ha 90 hx90 (by omega)
  have EN := bg_ent hb 90 hn90 (by omega)
  have stn : St W W [⟨.agg #[.bool xn, .slice xo xk xc], X, 90, false⟩, ⟨.agg #[.bool nn, .slice no nk nc], N, 90, false⟩] := ⟨Ext.refl W, fun p hp => by
    simp only [List.mem_cons, List.not_mem_nil, or_false] at hp
    rcases hp with rfl | rfl
    · exact EX
    · exact EN⟩
  clear EX EN
  clear hcells hx hy hr ha hb hB hz hBe h1 h2 h3 h4 hv hd hm hk b10 b11 b20 b21 b30 b31 b40 b41 b50 b51 bv hm0 hm1 hp1 hp hx90 hn90
  obtain ⟨⟨d0, d1⟩, d2, d3⟩ := HC.out W (Ext.refl W)
  have std := stn.drew
  first | (go_region_held3 (fun wx => (wx.cell? ⟨B, 0, none⟩ = some (.bool xn) ∧ wx.cell? ⟨B, 1, none⟩ = some (.slice xo xk xc)) ∧ (wx.cell? ⟨B + 1, 0, none⟩ = some (.bool nn) ∧ wx.cell? ⟨B + 1, 1, none⟩ = some (.slice no nk nc)))
    (first | exact HC.out _ (by exact St.ext (by with_reducible assumption)))
    (first
      | (go_at_call 38; (with_reducible refine (C1.out _).mono ?_); rintro e wn ⟨rfl, hwn⟩; have stn := St.step (W := W) (by with_reducible assumption) hwn)
      | (go_at_call 38; (with_reducible refine (C3.out _).mono ?_); rintro e wn ⟨rfl, hwn⟩; have stn := St.step (W := W) (by with_reducible assumption) hwn)
      | (go_at_call 67; (with_reducible refine (C2.out _ (by exact St.ext (by assumption))).mono ?_); rintro e wn ⟨rfl, hwn⟩; have stn := St.step (W := W) (by with_reducible assumption) hwn)
      )) | fail "no walk"
  clear std d0 d1 d2 d3 C1 C2 C3
  obtain ⟨⟨d0, d1⟩, d2, d3⟩ := HC.out _ stn.ext
  go_wp2_with fail
  refine (C4.out _ (by exact St.ext stn)).mono ?_
  rintro e w4 ⟨rfl, h4⟩
  have st4 := stn.step h4
  clear d0 d1 d2 d3 stn h4 C4
  go_wp2_with fail
  refine (C5.out _).mono ?_
  rintro e w5 ⟨rfl, h5⟩
  have st5 := st4.step h5
  clear st4 h5 C5
  go_upto_region 3 with fail
  obtain ⟨⟨d0, d1⟩, d2, d3⟩ := HC.out _ st5.ext
  clear hwd hwm htm hp0 hpz
  have std := st5.drew
  first | (go_region_held3 (fun wx => (wx.cell? ⟨B, 0, none⟩ = some (.bool xn) ∧ wx.cell? ⟨B, 1, none⟩ = some (.slice xo xk xc)) ∧ (wx.cell? ⟨B + 1, 0, none⟩ = some (.bool nn) ∧ wx.cell? ⟨B + 1, 1, none⟩ = some (.slice no nk nc)))
    ((refine ⟨?_, ?_⟩; ((repeat (first | with_reducible refine bcells_drew ?_ | with_reducible refine bcells_alloc ?_ | with_reducible refine bcells_stored (by omega) ?_)); exact (HC.out _ (by exact St.ext (by with_reducible assumption))).1); ((repeat (first | with_reducible refine bcells_drew ?_ | with_reducible refine bcells_alloc ?_ | with_reducible refine bcells_stored (by omega) ?_)); exact (HC.out _ (by exact St.ext (by with_reducible assumption))).2)))
    (first
      | (go_at_call 45; refine (fromInt_bag (W := W) (by with_reducible assumption) k (by have := HK.out; omega)).mono ?_; rintro e wn ⟨r1, rfl, stn⟩)
      | (go_at_call 47; refine (mul_bag (W := W) (by with_reducible assumption) (by repeat (first | exact List.Mem.head _ | refine List.Mem.tail _ ?_)) (by repeat (first | exact List.Mem.head _ | refine List.Mem.tail _ ?_)) (by omega) (by omega) (by omega)).mono ?_; rintro e wn ⟨r2, rfl, stm⟩)
      | (go_at_call 49; refine (add_bag (W := W) (by with_reducible assumption) (by repeat (first | exact List.Mem.head _ | refine List.Mem.tail _ ?_)) (by repeat (first | exact List.Mem.head _ | refine List.Mem.tail _ ?_)) (by omega) (by omega)).mono ?_; rintro e wr ⟨r3, rfl, str⟩; obtain ⟨xn', xo', xk', xc', rfl, e1, e2, e3, e4⟩ := str.bag _ (List.Mem.head _); have bz := HR.out _ (by exact St.ext (by with_reducible assumption)); have z0 := bz.c0; have z1 := bz.c1; have z2 := bz.f 0; have z3 := bz.f 1)
      )) | fail "no walk"
  have hbn := e4 trivial
  have zz := bz.stored xn' xo' xk' xc'
  have y0 := zz.c0
  have y1 := zz.c1
  have ho := only_set2 wr (B + 1 + 1) (.bool xn') (.slice xo' xk' xc')
  have HF := Lib.hid (show Bn ((wr.setCell ⟨B + 1 + 1, 0, none⟩ (.bool xn')).setCell ⟨B + 1 + 1, 1, none⟩ (.slice xo' xk' xc')) xn' xo' xk' xc' (X + N * k) ∧ Ext w ((wr.setCell ⟨B + 1 + 1, 0, none⟩ (.bool xn')).setCell ⟨B + 1 + 1, 1, none⟩ (.slice xo' xk' xc')) from
    ⟨⟨hbn.neg, hbn.sl.only_box bz ho⟩, Below.trans (HE.out.trans str.ext) (ho.below (by rw [HBE.out]; omega))⟩)
  clear z0 z1 z2 z3 d0 d1 d2 d3 e1 e2 e3 e4 hbn zz bz ho std stn stm str st5
  go_wp2
  refine bodyPost_ret (v := .agg #[.bool xn', .slice xo' xk' xc']) (by simp [results, Tryz.results46, go_sem, y0, y1]) rfl ⟨xn', xo', xk', xc', rfl, HF.out.1, HF.out.2⟩
end Go.Proofs.YthicfkeiggcjjaaGreatDoor
