import Derived.Test.YtlpclahlolhjfaaGreatDoorMoCoU45
import Derived.Test.YtlpclahlolhjfaaGreatDoorMoCoU46
namespace Go.Proofs.YtlpclahlolhjfaaGreatDoor
open Go Go.RowKit

theorem ns_take {w : World} {ao : Option Addr} {n cap i : Nat} {l : List Int} (h : Ns w ao n cap l) (hi : i ≤ n) : Ns w ao i cap (l.take i) :=
  ⟨by rw [List.length_take, h.len]; omega, by have := h.cap; omega, fun h0 => by
    obtain ⟨b, o, e, hc⟩ := h.cells (by omega)
    refine ⟨b, o, e, fun j hj => ?_⟩
    rw [show (l.take i).getD j 0 = l.getD j 0 by simp [List.getD, hj]]
    exact hc j (by omega)⟩

theorem combine_eq (ao bo : Option Addr) (n c d : Nat) (res ps : List Int) (w : World) (hres : Ns w ao n c res) (h : Ns w bo n d ps) (hn : n ≤ 6) (hr : ∀ p ∈ ps, -9223372036854775808 ≤ p ∧ p ≤ 9223372036854775807) (hT : Table64 w) (z : Int) (hz : modE ps = z) :
    Calls Tryz.prog 7 #[.slice ao n c, .slice bo n d] w fun e w' => ∃ an aa ak ac bn ba bk bc, e = .returned (.tuple #[.agg #[.bool an, .slice aa ak ac], .agg #[.bool bn, .slice ba bk bc], .int .i64 z]) ∧
      (z ≠ 0 → (an = false ∧ aa = none ∧ ak = 0 ∧ ac = 0) ∧ bn = false ∧ ba = none ∧ bk = 0 ∧ bc = 0) ∧ (z = 0 → Bn w' an aa ak ac (crtC (crtFin res ps) (crtN ps)) ∧ Bn w' bn ba bk bc (crtN ps)) ∧ Ext w w' := by
  subst hz
  by_cases he : modE ps = 0
  · refine (combine_yes ao bo n c d res ps w hres h hn hr hT he).mono fun e w' ⟨an, aa, ak, ac, bn, ba, bk, bc, h1, h2, h3, h4⟩ => ⟨an, aa, ak, ac, bn, ba, bk, bc, by rw [he]; exact h1, fun h => absurd he h, fun _ => ⟨h2, h3⟩, h4⟩
  · refine (combine_bad ao bo n c d ps w h (by omega) hr hT he).mono fun e w' ⟨h1, h2⟩ => ⟨false, none, 0, 0, false, none, 0, 0, h1, fun _ => ⟨⟨rfl, rfl, rfl, rfl⟩, rfl, rfl, rfl, rfl⟩, fun h => absurd h he, h2⟩
set_option maxRecDepth 100000 in
set_option maxHeartbeats 8000000 in
theorem mcombined_any (ro po : Option Addr) (n m c d : Nat) (res ps : List Int) (w : World) (hres : Ns w ro n c res) (hps : Ns w po m d ps) (hpb : ∀ p ∈ ps, -9223372036854775808 ≤ p ∧ p ≤ 9223372036854775807) (hT : Table64 w) (hP : Pow10 w) :
    Calls Tryz.prog 3 #[.slice ro n c, .slice po m d] w fun e w' => e = .returned (.bool true) ∧ Ext w w' := by
  have HRES := Lib.hid hres
  have HPS := Lib.hid hps
  have HLP := Lib.hid hps.len
  have HPB := Lib.hid hpb
  have HT := Lib.hid hT
  have HAW := Lib.hid (show ∀ wx, Ext w wx → Calls Tryz.prog 5 #[] wx fun e w' => e = .returned (.bool true) ∧ Ext wx w' from fun wx h => mawake_any wx (hT.below h) (hP.below h))
  clear hres hps hpb hT hP
  by_cases h6 : n ≤ 6 ∧ m ≤ 6
  · have hn6 : (n : Int) ≤ 6 := by omega
    have hm6 : (m : Int) ≤ 6 := by omega
    have HN6 := Lib.hid h6
    clear h6
    go_enter Tryz.func3, Tryz.ntmps3
    go_wp2
    go_loopw [5] (fun iv wr => ∃ i : Nat, i ≤ m ∧ iv = .int .i64 (i : Int) ∧ Hid (∀ j, j < i → ps.getD j 0 < 100000 ∨ 2147483637 < ps.getD j 0) ∧ w = wr)
      (fun iv _ => m - (intOf iv).toNat)
    case atStart => exact ⟨0, Nat.zero_le _, rfl, Lib.hid (fun j h => absurd h (Nat.not_lt_zero _)), rfl⟩
    case round =>
      obtain ⟨i, hi, rfl, HM, rfl⟩ := hrel
      by_cases hlt : i < m
      · obtain ⟨b, o, rfl, hc⟩ := HPS.out.cells (by omega)
        have hk := hc i hlt
        obtain ⟨p, hp⟩ : ∃ p, ps.getD i 0 = p := ⟨_, rfl⟩
        rw [hp] at hk
        have HPI := Lib.hid hp
        have hii : (i : Int) < (m : Int) := by omega
        clear hc hp
        go_wp2_with fail
        refine (modulus_any p _).mono ?_
        by_cases hmod : p < 100000 ∨ 2147483637 < p
        · rw [decide_eq_true hmod]
          rintro e w1 ⟨rfl, rfl⟩
          have HM2 := Lib.hid (show ∀ j, j < i + 1 → ps.getD j 0 < 100000 ∨ 2147483637 < ps.getD j 0 from fun j hj => by
            rcases Nat.lt_or_ge j i with h | h
            · exact HM.out j h
            · obtain rfl : j = i := by omega
              rw [HPI.out]; exact hmod)
          clear hmod
          go_wp2
          go_roundw
          case rel => exact ⟨i + 1, by omega, by go_num, HM2, trivial⟩
          case measure => simp [intOf]; omega
        · rw [decide_eq_false hmod]
          rintro e w1 ⟨rfl, rfl⟩
          clear hmod
          go_wp2_with fail
          refine (HAW.out _ (Ext.refl _)).mono ?_
          rintro e wa ⟨rfl, hwa⟩
          have HEA := Lib.hid hwa
          clear hwa
          go_wp2
          go_ret
          exact ⟨rfl, HEA.out⟩
      · obtain rfl : m = i := by omega
        have HIS := Lib.hid (show ∀ p ∈ ps, mr p = isP p from fun p hp => by
          obtain ⟨j, hj, rfl⟩ := List.mem_iff_getElem.1 hp
          have := HM.out j (by rw [← HLP.out]; exact hj)
          rw [show ps.getD j 0 = ps[j] by simp [List.getD, hj]] at this
          exact mr_isP (by omega))
        clear HM hi hlt
        by_cases hnm : n = m
        · obtain rfl : m = n := hnm.symm
          obtain ⟨z, hz⟩ : ∃ z, modE ps = z := ⟨_, rfl⟩
          have CA := Lib.hid (combine_eq ro po m c d res ps w HRES.out HPS.out HN6.out.1 HPB.out HT.out z hz)
          have HZ := Lib.hid hz
          clear hz
          go_wp2_with fail
          refine CA.out.mono ?_
          rintro e w1 ⟨an, aa, ak, ac, bn, ba, bk, bc, rfl, hz1, hz0, h1⟩
          clear CA
          go_upto_region 9 with fail
          obtain ⟨V, hV, hE4, hx, hy⟩ := box_pair w1 an aa ak ac bn ba bk bc
          rw [← hV]
          have HX := Lib.hid hx
          have HY := Lib.hid hy
          have HEV := Lib.hid (Ext.trans h1 hE4)
          have HZ1 := Lib.hid hz1
          have HZ0 := Lib.hid (show z = 0 → Bn V an aa ak ac (crtC (crtFin res ps) (crtN ps)) ∧ Bn V bn ba bk bc (crtN ps) from fun h => ⟨(hz0 h).1.below hE4, (hz0 h).2.below hE4⟩)
          clear hV hx hy hE4 h1 hz1 hz0
          generalize w1.heap.size = D at *
          go_upto_block 2 with fail
          go_cut [9, 10] from 48 to 63 (fun p q wx => ∃ y i : Int, p = .int .i64 y ∧ q = .int .i64 i ∧ ((y = 0 ∧ Hid (ps.all mr = true)) ∨ (y = 70 ∧ Hid (ps.all mr = false))) ∧ wx = V)
          case first =>
            go_wp2
            go_loopw [9, 10] (fun p q wr => ∃ (y : Int) (i : Nat), i ≤ m ∧ p = .int .i64 y ∧ q = .int .i64 (i : Int) ∧ ((y = 0 ∧ Hid ((ps.take i).all mr = true)) ∨ (y = 70 ∧ Hid (ps.all mr = false))) ∧ wr = V)
              (fun _ q _ => m - (intOf q).toNat)
            case atStart => exact ⟨0, 0, Nat.zero_le _, rfl, rfl, Or.inl ⟨rfl, Lib.hid rfl⟩, rfl⟩
            case round =>
              obtain ⟨y, i, hi, rfl, rfl, hyy, rfl⟩ := hrel
              rcases hyy with ⟨rfl, HA⟩ | ⟨rfl, HF⟩
              · by_cases hlt : i < m
                · obtain ⟨b, o, rfl, hc⟩ := (HPS.out.below HEV.out).cells (by omega)
                  have hk := hc i hlt
                  have hil : i < ps.length := by rw [HLP.out]; exact hlt
                  obtain ⟨p, hp⟩ : ∃ p, ps.getD i 0 = p := ⟨_, rfl⟩
                  rw [hp] at hk
                  have HPM := Lib.hid (show p ∈ ps by rw [← hp]; simp [List.getD, hil])
                  have HTK := Lib.hid (show ps.take (i + 1) = ps.take i ++ [p] by
                    rw [List.take_add_one, List.getElem?_eq_getElem hil, ← hp]
                    simp [List.getD, hil])
                  have hii : (i : Int) < (m : Int) := by omega
                  clear hc hp hil
                  go_wp2_with fail
                  refine (refIsPrime_any p _).mono ?_
                  rw [← HIS.out p HPM.out]
                  rintro e w5 ⟨rfl, rfl⟩
                  cases hm : mr p with
                  | true =>
                    have HA2 := Lib.hid (show (ps.take (i + 1)).all mr = true by rw [HTK.out, List.all_append, HA.out]; simp [hm])
                    clear hm
                    go_wp2
                    go_roundw
                    case rel => exact ⟨0, i + 1, by omega, rfl, by go_num, Or.inl ⟨rfl, HA2⟩, trivial⟩
                    case measure => simp [intOf]; omega
                  | false =>
                    have HF2 := Lib.hid (show ps.all mr = false by
                      rw [List.all_eq_false]
                      exact ⟨p, HPM.out, by rw [hm]; simp⟩)
                    clear hm
                    go_wp2
                    go_roundw
                    case rel => exact ⟨70, i + 1, by omega, rfl, by go_num, Or.inr ⟨rfl, HF2⟩, trivial⟩
                    case measure => simp [intOf]; omega
                · obtain rfl : m = i := by omega
                  have HA2 := Lib.hid (show ps.all mr = true by
                    have := HA.out
                    rwa [List.take_of_length_le (by rw [HLP.out]; exact Nat.le_refl _)] at this)
                  go_wp2
                  go_meet
                  exact ⟨0, _, rfl, rfl, Or.inl ⟨rfl, HA2⟩, rfl⟩
              · by_cases hlt : (i : Int) < (m : Int)
                · go_wp2
                  go_meet
                  exact ⟨70, _, rfl, rfl, Or.inr ⟨rfl, HF⟩, rfl⟩
                · go_wp2
                  go_meet
                  exact ⟨70, _, rfl, rfl, Or.inr ⟨rfl, HF⟩, rfl⟩
          case rest =>
            obtain ⟨y, i2, rfl, rfl, hyy, rfl⟩ := hcut
            have HY3 := Lib.hid (show (y = 0 ∧ ps.all mr = true ∧ z = if dupB [] ps then 1 else 0) ∨ (y ≠ 0 ∧ y = z) by
              rcases hyy with ⟨rfl, h⟩ | ⟨rfl, h⟩
              · left; exact ⟨rfl, h.out, by rw [← HZ.out]; unfold modE; rw [if_pos h.out]⟩
              · right; exact ⟨by omega, by rw [← HZ.out]; unfold modE; rw [if_neg (by rw [h.out]; simp)]⟩)
            clear hyy
            go_upto_block 4 with fail
            go_cut [9, 11] from 64 to 81 (fun p q wx => ∃ i : Int, p = .int .i64 z ∧ q = .int .i64 i ∧ Ext wc wx)
            case first =>
              go_wp2
              go_loopw [9, 11] (fun p q wr => ∃ (y3 : Int) (i : Nat), i ≤ m ∧ p = .int .i64 y3 ∧ q = .int .i64 (i : Int) ∧ ((y3 = 0 ∧ Hid (z = if dupB (ps.take i) (ps.drop i) then 1 else 0)) ∨ (y3 ≠ 0 ∧ Hid (y3 = z))) ∧ Ext wc wr)
                (fun _ q _ => m - (intOf q).toNat)
              case atStart =>
                refine ⟨y, 0, Nat.zero_le _, rfl, rfl, ?_, Ext.refl _⟩
                rcases HY3.out with ⟨h1, h2, h3⟩ | ⟨h1, h2⟩
                · exact Or.inl ⟨h1, Lib.hid h3⟩
                · exact Or.inr ⟨h1, Lib.hid h2⟩
              case round =>
                obtain ⟨y3, i, hi, rfl, rfl, hyy, hEx⟩ := hrel
                have HEX := Lib.hid hEx
                rcases hyy with ⟨rfl, HA⟩ | ⟨hy0, HF⟩
                · by_cases hlt : i < m
                  · have hNs := (HPS.out.below HEV.out).below hEx
                    obtain ⟨b, o, rfl, hc⟩ := hNs.cells (by omega)
                    have hk := hc i hlt
                    have hil : i < ps.length := by rw [HLP.out]; exact hlt
                    obtain ⟨p, hp⟩ : ∃ p, ps.getD i 0 = p := ⟨_, rfl⟩
                    rw [hp] at hk
                    have HTK := Lib.hid (show ps.take (i + 1) = ps.take i ++ [p] by
                      rw [List.take_add_one, List.getElem?_eq_getElem hil, ← hp]
                      simp [List.getD, hil])
                    have HDR := Lib.hid (show ps.drop i = p :: ps.drop (i + 1) by
                      rw [List.drop_eq_getElem_cons hil, ← hp]
                      simp [List.getD, hil])
                    have HSTEP := Lib.hid (show z = if (if inB (ps.take i) p then true else dupB (ps.take (i + 1)) (ps.drop (i + 1))) then 1 else 0 by
                      rw [HA.out, HDR.out, HTK.out]; conv => lhs; unfold dupB)
                    have hii : (i : Int) < (m : Int) := by omega
                    have hid : (i : Int) ≤ (d : Int) := by have := hNs.cap; omega
                    have HI0 : (0 : Int) ≤ (i : Int) := by omega
                    have CN := Lib.hid (fun wx (h : Ext wr wx) => in_any (some ⟨b, o, none⟩) i d (ps.take i) p wx (ns_take (hNs.below h) (by omega)) (by have := HN6.out; omega))
                    obtain ⟨y, hy⟩ : ∃ y, inB (ps.take i) p = y := ⟨_, rfl⟩
                    rw [hy] at CN
                    have HYY := Lib.hid hy
                    have HCK := Lib.hid (show ∀ wx, Ext wr wx → wx.cell? ⟨b, o + i, none⟩ = some (.int .i64 p) from fun wx h => (h.cell (lt_of_cell hk)).trans hk)
                    have stn : St wr wr [] := ⟨Ext.refl _, fun p hp => by cases hp⟩
                    have std := stn.drew
                    clear hc hp hil hNs hy hEx
                    go_upto_region 20 with fail
                    first | (go_region_held3 (fun wx => wx.cell? ⟨b, o + i, none⟩ = some (.int .i64 p))
                      (first | exact HCK.out _ (by exact St.ext (by with_reducible assumption)))
                      (first | (go_at_call 9; refine (CN.out _ (by exact St.ext (by assumption))).mono ?_; rintro e wn ⟨rfl, hwn⟩; have stm := St.step (W := wr) (by with_reducible assumption) (show Ext _ wn from by rw [← hwn]; exact Ext.refl _)))) | fail "r20"
                    have HEX2 := Lib.hid (HEX.out.trans stm.ext)
                    clear stn std CN
                    cases y with
                    | true =>
                      have HZ1' := Lib.hid (show (1 : Int) = z by rw [HSTEP.out, HYY.out]; rfl)
                      go_wp2
                      go_roundw
                      case rel => exact ⟨1, i + 1, by omega, rfl, by go_num, Or.inr ⟨by omega, HZ1'⟩, HEX2.out⟩
                      case measure => simp [intOf]; omega
                    | false =>
                      have HZ0' := Lib.hid (show z = if dupB (ps.take (i + 1)) (ps.drop (i + 1)) then 1 else 0 by rw [HSTEP.out, HYY.out]; rfl)
                      go_wp2
                      go_roundw
                      case rel => exact ⟨0, i + 1, by omega, rfl, by go_num, Or.inl ⟨rfl, HZ0'⟩, HEX2.out⟩
                      case measure => simp [intOf]; omega
                  · obtain rfl : m = i := by omega
                    have hz0 : z = 0 := by
                      rw [HA.out, List.drop_eq_nil_of_le (by rw [HLP.out]; exact Nat.le_refl _)]
                      unfold dupB; rfl
                    have HZQ := Lib.hid hz0
                    clear hz0 HA
                    go_wp2
                    go_meet
                    exact ⟨_, by rw [HZQ.out], rfl, HEX.out⟩
                · have HYZ := Lib.hid HF.out
                  by_cases hlt : (i : Int) < (m : Int)
                  · go_wp2
                    go_meet
                    exact ⟨_, by rw [HYZ.out], rfl, HEX.out⟩
                  · go_wp2
                    go_meet
                    exact ⟨_, by rw [HYZ.out], rfl, HEX.out⟩
            case rest =>
              obtain ⟨i3, rfl, rfl, hE3⟩ := hcut
              have HX := Lib.hid (HX.out.below hE3)
              have HY := Lib.hid (HY.out.below hE3)
              have HEV2 := Lib.hid (HEV.out.trans hE3)
              have HZ02 := Lib.hid (show z = 0 → Bn wc an aa ak ac (crtC (crtFin res ps) (crtN ps)) ∧ Bn wc bn ba bk bc (crtN ps) from fun h => ⟨(HZ0.out h).1.below hE3, (HZ0.out h).2.below hE3⟩)
              clear hE3 HEV HZ0 HY3 hn6 hm6
              obtain ⟨V3, hV3⟩ : ∃ V3, V3 = wc := ⟨wc, rfl⟩
              subst hV3
              have HEV := Lib.hid HEV2.out
              by_cases hz : z = 0
              · subst hz
                obtain ⟨hA, hN⟩ := HZ02.out rfl
                have hall : ps.all mr = true := by
                  have := HZ.out
                  unfold modE at this
                  by_cases h : ps.all mr = true
                  · exact h
                  · rw [if_neg h] at this; cases this
                have CR := Lib.hid (fun wx (h : Ext V3 wx) => refCombine_any ro po m c d res ps wx (HRES.out.below (HEV.out.trans h)) (HPS.out.below (HEV.out.trans h)) HN6.out.1 (fun p hp => by have := mr_bounds (List.all_eq_true.1 hall p hp); omega))
                obtain ⟨PX, hPX⟩ : ∃ PX, crtC (crtFin res ps) (crtN ps) = PX := ⟨_, rfl⟩
                obtain ⟨PN, hPN⟩ : ∃ PN, crtN ps = PN := ⟨_, rfl⟩
                rw [hPX] at hA CR
                rw [hPN] at hN CR
                have HA := Lib.hid hA
                have HN := Lib.hid hN
                clear hA hN hPX hPN hall HZ HZ02 HZ1 HIS
                go_wp2_with fail
                refine (CR.out _ (Ext.refl _)).mono ?_
                rintro e w7 ⟨xn, xo, xk, xc, yn, yo, yk, yc, rfl, hX7, hY7, hE7⟩
                go_upto_region 25 with fail
                obtain ⟨V4, hV4, hE8, hx8, hy8⟩ := box_pair w7 xn xo xk xc yn yo yk yc
                rw [← hV4]
                have hE78 := Ext.trans hE7 hE8
                have gx := HX.out.below hE78
                have gy := HY.out.below hE78
                have gA := HA.out.below hE78
                have gN := HN.out.below hE78
                have gX := hX7.below hE8
                have gY := hY7.below hE8
                have HG := Lib.hid (HEV.out.trans hE78)
                generalize w7.heap.size = G at *
                have x0 := gx.c0
                have x1 := gx.c1
                have y0 := hx8.c0
                have y1 := hx8.c1
                clear hE7 hE8 hE78 hX7 hY7 hV4 CR
                go_wp2_with fail
                refine (big_eq an xn aa ak ac xo xk xc PX PX V4 gA gX rfl).mono ?_
                rintro e q1 ⟨rfl, h1⟩
                have gy := gy.below h1
                have hy8 := hy8.below h1
                have gN := gN.below h1
                have gY := gY.below h1
                have HG1 := Lib.hid (HG.out.trans h1)
                clear x0 x1 y0 y1 gx hx8 gA gX h1
                have x0 := gy.c0
                have x1 := gy.c1
                have y0 := hy8.c0
                have y1 := hy8.c1
                go_wp2_with fail
                refine (big_eq bn yn ba bk bc yo yk yc PN PN q1 gN gY rfl).mono ?_
                rintro e q2 ⟨rfl, h2⟩
                have HEQ := Lib.hid (HG1.out.trans h2)
                clear x0 x1 y0 y1 gy hy8 gN gY h2
                go_wp2_with fail
                refine (HAW.out _ HEQ.out).mono ?_
                rintro e wa ⟨rfl, hwa⟩
                have HEA := Lib.hid (HEQ.out.trans hwa)
                clear hwa
                go_wp2
                go_ret
                exact ⟨rfl, HEA.out⟩
              · obtain ⟨⟨rfl, rfl, rfl, rfl⟩, rfl, rfl, rfl, rfl⟩ := HZ1.out hz
                clear HZ02 HZ1
                have hs : St V3 V3 [⟨.agg #[.bool false, .slice none 0 0], 0, 0, true⟩] := ⟨Ext.refl _, fun p hp => by rw [List.mem_singleton] at hp; subst hp; exact ok_zero V3⟩
                have x0 := HX.out.c0
                have x1 := HX.out.c1
                have y0 := HY.out.c0
                have y1 := HY.out.c1
                go_wp2_with fail
                refine (big_bag hs (List.Mem.head _) (List.Mem.head _) rfl).mono ?_
                rintro e q1 ⟨rfl, s1⟩
                have hx := HX.out.below s1.ext
                have hy := HY.out.below s1.ext
                clear x0 x1 y0 y1 hs
                have y0 := hy.c0
                have y1 := hy.c1
                go_wp2_with fail
                refine (big_bag s1 (List.Mem.head _) (List.Mem.head _) rfl).mono ?_
                rintro e q2 ⟨rfl, s2⟩
                have HEQ := Lib.hid (HEV.out.trans s2.ext)
                clear y0 y1 s1 s2 hx hy
                go_wp2_with fail
                refine (HAW.out _ HEQ.out).mono ?_
                rintro e wa ⟨rfl, hwa⟩
                have HEA := Lib.hid (HEQ.out.trans hwa)
                clear hwa
                go_wp2
                go_ret
                exact ⟨rfl, HEA.out⟩
        · have CA := Lib.hid (combine_len ro po n m c d w hnm)
          have hnm' : (n : Int) ≠ (m : Int) := by omega
          clear hnm
          go_wp2_with fail
          refine CA.out.mono ?_
          rintro e w1 ⟨rfl, h1⟩
          clear CA
          go_upto_region 9 with fail
          obtain ⟨V, hV, hE4, hx, hy⟩ := box_pair w1 false none 0 0 false none 0 0
          rw [← hV]
          have HX := Lib.hid hx
          have HY := Lib.hid hy
          have HEV := Lib.hid (Ext.trans h1 hE4)
          clear hV hx hy hE4 h1
          generalize w1.heap.size = D at *
          by_cases hm0 : (0 : Int) < (m : Int)
          · go_wp2
            refine wp_loop_rounds 1 ?_
            rw [rounds_succ]
            go_wp2
            refine wp_loop_rounds 1 ?_
            rw [rounds_succ]
            have hs : St V V [⟨.agg #[.bool false, .slice none 0 0], 0, 0, true⟩] := ⟨Ext.refl _, fun p hp => by rw [List.mem_singleton] at hp; subst hp; exact ok_zero V⟩
            have x0 := HX.out.c0
            have x1 := HX.out.c1
            have y0 := HY.out.c0
            have y1 := HY.out.c1
            go_wp2_with fail
            refine (big_bag hs (List.Mem.head _) (List.Mem.head _) rfl).mono ?_
            rintro e q1 ⟨rfl, s1⟩
            have hx := HX.out.below s1.ext
            have hy := HY.out.below s1.ext
            clear x0 x1 y0 y1 hs
            have y0 := hy.c0
            have y1 := hy.c1
            go_wp2_with fail
            refine (big_bag s1 (List.Mem.head _) (List.Mem.head _) rfl).mono ?_
            rintro e q2 ⟨rfl, s2⟩
            have HEQ := Lib.hid (HEV.out.trans s2.ext)
            clear y0 y1 s1 s2 hx hy
            go_wp2_with fail
            refine (HAW.out _ HEQ.out).mono ?_
            rintro e wa ⟨rfl, hwa⟩
            have HEA := Lib.hid (HEQ.out.trans hwa)
            clear hwa
            go_wp2
            go_ret
            exact ⟨rfl, HEA.out⟩
          · go_wp2
            refine wp_loop_rounds 1 ?_
            rw [rounds_succ]
            go_wp2
            refine wp_loop_rounds 1 ?_
            rw [rounds_succ]
            have hs : St V V [⟨.agg #[.bool false, .slice none 0 0], 0, 0, true⟩] := ⟨Ext.refl _, fun p hp => by rw [List.mem_singleton] at hp; subst hp; exact ok_zero V⟩
            have x0 := HX.out.c0
            have x1 := HX.out.c1
            have y0 := HY.out.c0
            have y1 := HY.out.c1
            go_wp2_with fail
            refine (big_bag hs (List.Mem.head _) (List.Mem.head _) rfl).mono ?_
            rintro e q1 ⟨rfl, s1⟩
            have hx := HX.out.below s1.ext
            have hy := HY.out.below s1.ext
            clear x0 x1 y0 y1 hs
            have y0 := hy.c0
            have y1 := hy.c1
            go_wp2_with fail
            refine (big_bag s1 (List.Mem.head _) (List.Mem.head _) rfl).mono ?_
            rintro e q2 ⟨rfl, s2⟩
            have HEQ := Lib.hid (HEV.out.trans s2.ext)
            clear y0 y1 s1 s2 hx hy
            go_wp2_with fail
            refine (HAW.out _ HEQ.out).mono ?_
            rintro e wa ⟨rfl, hwa⟩
            have HEA := Lib.hid (HEQ.out.trans hwa)
            clear hwa
            go_wp2
            go_ret
            exact ⟨rfl, HEA.out⟩
  · go_enter Tryz.func3, Tryz.ntmps3
    by_cases hn6 : (6 : Int) < (n : Int)
    · go_wp2_with fail
      refine (HAW.out _ (Ext.refl _)).mono ?_
      rintro e wa ⟨rfl, hwa⟩
      have HEA := Lib.hid hwa
      clear hwa
      go_wp2
      go_ret
      exact ⟨rfl, HEA.out⟩
    · have hm6 : (6 : Int) < (m : Int) := by omega
      go_wp2_with fail
      refine (HAW.out _ (Ext.refl _)).mono ?_
      rintro e wa ⟨rfl, hwa⟩
      have HEA := Lib.hid hwa
      clear hwa
      go_wp2
      go_ret
      exact ⟨rfl, HEA.out⟩
end Go.Proofs.YtlpclahlolhjfaaGreatDoor
