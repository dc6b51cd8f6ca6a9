import Derived.Test.YtkomhemjodbkpaaDoorTxOrdU42
import Derived.Deep.CutRange
namespace Go.Proofs.YtkomhemjodbkpaaDoor
open Go Go.RowKit

set_option maxRecDepth 100000 in
set_option maxHeartbeats 4000000 in
theorem order_sz (nb mb lb : Bool) (ao bo co : Option Addr) (n m l ca cb cc : Nat) (xs ys zs : List Int) (w : World) (ha : Sl w ao n ca xs) (hb : Sl w bo m cb ys) (hc : Sl w co l cc zs) (hn : n ≤ 40) (hm : m ≤ 40) (hl : l ≤ 40) (i : Int) (hi : -9223372036854775808 ≤ i ∧ i ≤ 9223372036854775807) (hP : Pow10 w) (hxy : sgn3 (sgd nb xs) (sgd mb ys) = 0) (hyz : sgn3 (sgd mb ys) (sgd lb zs) = 0) (hxz : sgn3 (sgd nb xs) (sgd lb zs) = 0) (haw : AwakeSays w) :
    Calls Tryd.prog 4 #[.agg #[.bool nb, .slice ao n ca], .agg #[.bool mb, .slice bo m cb], .agg #[.bool lb, .slice co l cc], .int .i64 i] w fun e w' => e = .returned (.bool true) ∧ Ext w w' := by
  go_enter Tryd.func4, Tryd.ntmps4
  go_wp2_with fail
  obtain ⟨W, hW, hB, hx, hy, hz⟩ := boxes_in w nb ao n ca mb bo m cb lb co l cc
  rw [← hW]
  clear hW
  have ra := ok_raw (nb := nb) (ha.below hB) 40 hn (by omega)
  have rb := ok_raw (nb := mb) (hb.below hB) 40 hm (by omega)
  have rc := ok_raw (nb := lb) (hc.below hB) 40 hl (by omega)
  have hAW : AwakeSays W := fun w' h => haw w' (hB.trans h)
  have fa : Bg W nb ao n ca (sgd nb xs) := ⟨⟨xs, ha.below hB, rfl⟩, by omega⟩
  have fb : Bg W mb bo m cb (sgd mb ys) := ⟨⟨ys, hb.below hB, rfl⟩, by omega⟩
  have na : (sgd nb xs).natAbs < 4294967296 ^ 40 := by obtain ⟨_, _, _, _, _, _, _, a1, _⟩ := ra; exact a1
  have nb' : (sgd mb ys).natAbs < 4294967296 ^ 40 := by obtain ⟨_, _, _, _, _, _, _, a1, _⟩ := rb; exact a1
  have HPW := Lib.hid (show ∀ wx, Ext W wx → Pow10 wx from fun wx h => (hP.below hB).below h)
  clear hP
  generalize sgd nb xs = x at *
  generalize sgd mb ys = y at *
  generalize sgd lb zs = z at *
  have HXY := Lib.hid hxy
  have HYZ := Lib.hid hyz
  have HXZ := Lib.hid hxz
  have HSU := Lib.hid (show sgn3 (x - y) 0 = 0 from (sgn3_sub x y).trans hxy)
  have HAD := Lib.hid (show sgn3 (x + z) (y + z) = 0 from (sgn3_add x y z).trans hxy)
  have HYX := Lib.hid (show sgn3 y x = -0 by rw [sgn3_flip x y, hxy])
  have hs1 : (-1 : Int) ≤ 0 ∧ 0 ≤ (1 : Int) := by have := sgn3_le x y; rw [hxy] at this; exact this
  have hwr : IntKind.i64.wrap 0 = 0 := by rw [IntKind.wrap_i64]; omega
  obtain ⟨t1, ht1⟩ : ∃ t : ByteArray, (⟨(texI x).toArray⟩ : ByteArray) = t := ⟨_, rfl⟩
  obtain ⟨t2, ht2⟩ : ∃ t : ByteArray, (⟨(texI y).toArray⟩ : ByteArray) = t := ⟨_, rfl⟩
  have htz : t1.size ≤ 100000 := by
    have := dec_limbs40 na
    rw [← ht1]; show (texI x).toArray.size ≤ _
    unfold texI; simp; split <;> simp <;> omega
  have hpx := parse_texI x (dec_limbs40 na)
  have hpl : parseSays t1.data.toList = (x, 0) := by rw [← ht1]; exact hpx
  have PA := Lib.hid (fun wx => parse_any t1 htz x 0 (by rw [hpl]) (by rw [hpl]) wx)
  have FA := Lib.hid (fun wx (h : Ext W wx) => format_any nb ao n ca x wx (fa.below h) (by omega) (HPW.out wx h) t1 ht1)
  have FB := Lib.hid (fun wx (h : Ext W wx) => format_any mb bo m cb y wx (fb.below h) (by omega) (HPW.out wx h) t2 ht2)
  have FI := Lib.hid (fun wx => fromInt_any i wx hi.1 hi.2)
  have HNA := Lib.hid na
  obtain rfl : t1 = t2 := by rw [← ht1, ← ht2, (sgn3_same _ _).1 hxy]
  clear hxy hyz hxz hpx hpl fa fb ht1 ht2 htz na nb'
  generalize hg : w.heap.size = B at *
  have HG := Lib.hid hg; clear hg
  have hst : St W W [⟨.agg #[.bool nb, .slice ao n ca], x, 40, false⟩, ⟨.agg #[.bool mb, .slice bo m cb], y, 40, false⟩, ⟨.agg #[.bool lb, .slice co l cc], z, 40, false⟩, ⟨.agg #[.bool false, .slice none 0 0], 0, 0, true⟩] :=
    ⟨Ext.refl W, fun p hp => by
      simp only [List.mem_cons, List.not_mem_nil, or_false] at hp
      rcases hp with rfl | rfl | rfl | rfl
      · exact ra
      · exact rb
      · exact rc
      · exact ok_zero W⟩
  have HB := Lib.hid hB
  clear ha hb hc ra rb rc hB haw
  have hcells : ∀ wx, Ext W wx → (wx.cell? ⟨B, 0, none⟩ = some (.bool nb) ∧ wx.cell? ⟨B, 1, none⟩ = some (.slice ao n ca) ∧ wx.cell? ⟨B + 1, 0, none⟩ = some (.bool mb) ∧ wx.cell? ⟨B + 1, 1, none⟩ = some (.slice bo m cb) ∧ wx.cell? ⟨B + 1 + 1, 0, none⟩ = some (.bool lb) ∧ wx.cell? ⟨B + 1 + 1, 1, none⟩ = some (.slice co l cc)) := fun wx h =>
    ⟨(hx.below h).c0, (hx.below h).c1, (hy.below h).c0, (hy.below h).c1, (hz.below h).c0, (hz.below h).c1⟩
  have HC := Lib.hid hcells
  clear hcells hx hy hz
  refine (slim_yes nb ao n ca 40 _ hn).mono ?_
  rintro e w1 ⟨rfl, h1⟩
  have st1 := hst.step h1
  obtain ⟨d0, d1, d2, d3, d4, d5⟩ := HC.out w1 st1.ext
  clear h1
  go_wp2_with fail
  refine (slim_yes mb bo m cb 40 _ hm).mono ?_
  rintro e w2 ⟨rfl, h2⟩
  have st2 := st1.step h2
  clear d0 d1 d2 d3 d4 d5 st1 h2
  obtain ⟨d0, d1, d2, d3, d4, d5⟩ := HC.out w2 st2.ext
  go_wp2_with fail
  refine (slim_yes lb co l cc 40 _ hl).mono ?_
  rintro e w3 ⟨rfl, h3⟩
  have st3 := st2.step h3
  have HST := Lib.hid hst
  clear d0 d1 d2 d3 d4 d5 st2 h3 hst
  obtain ⟨d0, d1, d2, d3, d4, d5⟩ := HC.out w3 st3.ext
  have stn := st3
  have HAV : Hid (AwakeSays W) := Lib.hid hAW
  clear st3 hAW
  go_upto_region 3 with fail
  have std := stn.drew
  first | (go_region_held3 (fun wx => (wx.cell? ⟨B, 0, none⟩ = some (.bool nb) ∧ wx.cell? ⟨B, 1, none⟩ = some (.slice ao n ca) ∧ wx.cell? ⟨B + 1, 0, none⟩ = some (.bool mb) ∧ wx.cell? ⟨B + 1, 1, none⟩ = some (.slice bo m cb) ∧ wx.cell? ⟨B + 1 + 1, 0, none⟩ = some (.bool lb) ∧ wx.cell? ⟨B + 1 + 1, 1, none⟩ = some (.slice co l cc)))
    (first | exact HC.out _ (by exact St.ext (by assumption)))
    (first
      | (go_at_call 12; refine (cmp_bag (W := W) (by assumption) (by repeat (first | exact List.Mem.head _ | refine List.Mem.tail _ ?_)) (by repeat (first | exact List.Mem.head _ | refine List.Mem.tail _ ?_)) _ (by first | exact HXY.out | exact HYZ.out | exact HXZ.out | exact HAD.out | exact HYX.out)).mono ?_; rintro e wn ⟨rfl, stn⟩)
      )) | fail "no walk"
  clear std
  clear d0 d1 d2 d3 d4 d5
  obtain ⟨d0, d1, d2, d3, d4, d5⟩ := HC.out _ stn.ext
  go_upto_region 4 with fail
  have std := stn.drew
  go_cut [71] from 35 (fun p wx => p = .bool false ∧ Ext W wx)
  case first =>
    first | (go_region_held3 (fun wx => (wx.cell? ⟨B, 0, none⟩ = some (.bool nb) ∧ wx.cell? ⟨B, 1, none⟩ = some (.slice ao n ca) ∧ wx.cell? ⟨B + 1, 0, none⟩ = some (.bool mb) ∧ wx.cell? ⟨B + 1, 1, none⟩ = some (.slice bo m cb) ∧ wx.cell? ⟨B + 1 + 1, 0, none⟩ = some (.bool lb) ∧ wx.cell? ⟨B + 1 + 1, 1, none⟩ = some (.slice co l cc)))
      (first | exact HC.out _ (by exact St.ext (by assumption)))
      (first
        | (go_at_call 14; refine (sub_bag (W := W) (by assumption) (by repeat (first | exact List.Mem.head _ | refine List.Mem.tail _ ?_)) (by repeat (first | exact List.Mem.head _ | refine List.Mem.tail _ ?_)) (by omega) (by omega)).mono ?_; rintro e wn ⟨r, rfl, stn⟩)
        | (go_at_call 13; refine (sign_bag (W := W) (by assumption) (by repeat (first | exact List.Mem.head _ | refine List.Mem.tail _ ?_)) _ HSU.out).mono ?_; rintro e wn ⟨rfl, stn⟩)
        | (go_at_call 15; refine (add_bag (W := W) (by assumption) (by repeat (first | exact List.Mem.head _ | refine List.Mem.tail _ ?_)) (by repeat (first | exact List.Mem.head _ | refine List.Mem.tail _ ?_)) (by omega) (by omega)).mono ?_; rintro e wn ⟨r, rfl, stn⟩)
        | (go_at_call 12; refine (cmp_bag (W := W) (by assumption) (by repeat (first | exact List.Mem.head _ | refine List.Mem.tail _ ?_)) (by repeat (first | exact List.Mem.head _ | refine List.Mem.tail _ ?_)) _ (by first | exact HXY.out | exact HYZ.out | exact HXZ.out | exact HAD.out | exact HYX.out)).mono ?_; rintro e wn ⟨rfl, stn⟩)
        )) | fail "no walk"
    all_goals
      have EF := St.ext stn
      go_wp2
      go_meet
    all_goals
      exact ⟨rfl, EF⟩
  case rest =>
  obtain ⟨rfl, hE⟩ := hcut
  clear stn std d0 d1 d2 d3 d4 d5
  have stn := HST.out.step hE
  clear hE
  obtain ⟨d0, d1, d2, d3, d4, d5⟩ := HC.out _ stn.ext
  go_wp2_with fail
  refine (FA.out _ stn.ext).mono ?_
  rintro e w6 ⟨rfl, hE⟩
  have stn := stn.step hE
  clear hE d0 d1 d2 d3 d4 d5
  go_wp2_with fail
  refine (PA.out _).mono ?_
  rintro e w7 hpo
  obtain ⟨pn, po, pk, pc, rfl, hp, hE⟩ := hpo
  have stn := stn.push hE (ok_bn hp HNA.out (by omega))
  clear hE hp
  go_upto_region 7 with fail
  obtain ⟨V, hV, hE, hbx, -⟩ := box_new w7 pn po pk pc
  rw [← hV]
  clear hV
  have stn := stn.step hE
  have hWV := stn.ext
  have stn : St V V _ := ⟨Ext.refl V, stn.bag⟩
  have HAV2 : Hid (AwakeSays V) := Lib.hid (fun w' h => HAV.out w' (hWV.trans h))
  have FA2 := Lib.hid (fun wx (h : Ext V wx) => FA.out wx (Ext.trans hWV h))
  have FB2 := Lib.hid (fun wx (h : Ext V wx) => FB.out wx (Ext.trans hWV h))
  generalize w7.heap.size = G at *
  have HC2 := Lib.hid (show ∀ wx, Ext V wx → (wx.cell? ⟨B, 0, none⟩ = some (.bool nb) ∧ wx.cell? ⟨B, 1, none⟩ = some (.slice ao n ca) ∧ wx.cell? ⟨B + 1, 0, none⟩ = some (.bool mb) ∧ wx.cell? ⟨B + 1, 1, none⟩ = some (.slice bo m cb) ∧ wx.cell? ⟨B + 1 + 1, 0, none⟩ = some (.bool lb) ∧ wx.cell? ⟨B + 1 + 1, 1, none⟩ = some (.slice co l cc)) ∧ wx.cell? ⟨G, 0, none⟩ = some (.bool pn) ∧ wx.cell? ⟨G, 1, none⟩ = some (.slice po pk pc) from fun wx h => ⟨HC.out wx (hWV.trans h), (hbx.below h).c0, (hbx.below h).c1⟩)
  have HWV := Lib.hid (HB.out.trans hWV)
  clear hWV hE hbx HC HB FA FB HAV
  go_wp2_with fail
  refine (FI.out _).mono ?_
  rintro e w8 ⟨fn, fo, fk, fc, rfl, hf, hE⟩
  have stn := stn.push hE (ok_bn (N := 3) hf (Nat.lt_of_le_of_lt (show i.natAbs ≤ 9223372036854775808 by omega) (by decide)) (by omega))
  clear hE hf
  go_wp2_with fail
  refine (int_bagI stn (List.Mem.head _) hi).mono ?_
  rintro e w9 ⟨rfl, stn⟩
  obtain ⟨⟨d0, d1, d2, d3, d4, d5⟩, g0, g1⟩ := HC2.out _ stn.ext
  go_upto_region 8 with fail
  have std := stn.drew
  go_region_held3 (fun wx => (wx.cell? ⟨B, 0, none⟩ = some (.bool nb) ∧ wx.cell? ⟨B, 1, none⟩ = some (.slice ao n ca) ∧ wx.cell? ⟨B + 1, 0, none⟩ = some (.bool mb) ∧ wx.cell? ⟨B + 1, 1, none⟩ = some (.slice bo m cb) ∧ wx.cell? ⟨B + 1 + 1, 0, none⟩ = some (.bool lb) ∧ wx.cell? ⟨B + 1 + 1, 1, none⟩ = some (.slice co l cc)) ∧ wx.cell? ⟨G, 0, none⟩ = some (.bool pn) ∧ wx.cell? ⟨G, 1, none⟩ = some (.slice po pk pc))
      (first | exact HC2.out _ (by exact St.ext (by assumption)))
      (first
        | (go_at_call 18; refine (norm_bag (W := V) (by assumption) (by repeat (first | exact List.Mem.head _ | refine List.Mem.tail _ ?_)) (by omega)).mono ?_; rintro e wn ⟨r, rfl, stn⟩)
        | (go_at_call 9; refine (big_bag (W := V) (by assumption) (by repeat (first | exact List.Mem.head _ | refine List.Mem.tail _ ?_)) (by repeat (first | exact List.Mem.head _ | refine List.Mem.tail _ ?_)) rfl).mono ?_; rintro e wn ⟨rfl, stn⟩)
        | (go_at_call 10; (with_reducible refine (FA2.out _ (by exact St.ext (by assumption))).mono ?_); rintro e wn ⟨rfl, hwn⟩; have stn := St.step (W := V) (by assumption) hwn)
        | (go_at_call 10; (with_reducible refine (FB2.out _ (by exact St.ext (by assumption))).mono ?_); rintro e wn ⟨rfl, hwn⟩; have stn := St.step (W := V) (by assumption) hwn)
        | (go_at_call 6; refine (HAV2.out _ (by exact St.ext (by assumption))).mono ?_; rintro e wn ⟨rfl, hwn⟩; have stn := St.step (W := V) (by assumption) hwn)
        )
  have EX := Lib.hid (HWV.out.trans (St.ext stn))
  go_wp2
  go_ret
  exact ⟨rfl, EX.out⟩
end Go.Proofs.YtkomhemjodbkpaaDoor
