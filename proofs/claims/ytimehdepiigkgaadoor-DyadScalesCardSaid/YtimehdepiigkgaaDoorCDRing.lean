/- DyadRing returns true, from what its callees do. -/
import Derived.Test.YtimehdepiigkgaaDoorGp
namespace Go.Proofs.YtimehdepiigkgaaDoor
open Go.RowKit

theorem boxes_three_d (w : World) (ab an : Bool) (ao : Option Addr) (ak ac : Nat) (af : Int) (bb bn : Bool) (bo : Option Addr) (bk bc : Nat) (bf : Int) (cb cn : Bool) (co : Option Addr) (ck cc : Nat) (cf : Int) :
    ∃ W, W = ((w.alloc (.cells #[.bool ab, .bool an, .slice ao ak ac, .int .i64 af] 29)).alloc (.cells #[.bool bb, .bool bn, .slice bo bk bc, .int .i64 bf] 29)).alloc (.cells #[.bool cb, .bool cn, .slice co ck cc, .int .i64 cf] 29) ∧ Ext w W ∧
      DBox W w.heap.size ab an ao ak ac af ∧ DBox W (w.heap.size + 1) bb bn bo bk bc bf ∧ DBox W (w.heap.size + 1 + 1) cb cn co ck cc cf := by
  refine ⟨_, rfl, (((Below.refl _ w).alloc (Nat.le_refl _) _).alloc (by simp) _).alloc (by simp; omega) _, ?_, ?_, ?_⟩
  · exact (DBox.new w ab an ao ak ac af).below (((Below.refl _ _).alloc (Nat.le_refl _) _).alloc (by simp) _)
  · have := (DBox.new (w.alloc (.cells #[.bool ab, .bool an, .slice ao ak ac, .int .i64 af] 29)) bb bn bo bk bc bf).below ((Below.refl _ _).alloc (Nat.le_refl _) (.cells #[.bool cb, .bool cn, .slice co ck cc, .int .i64 cf] 29))
    simpa using this
  · have := DBox.new ((w.alloc (.cells #[.bool ab, .bool an, .slice ao ak ac, .int .i64 af] 29)).alloc (.cells #[.bool bb, .bool bn, .slice bo bk bc, .int .i64 bf] 29)) cb cn co ck cc cf
    simpa using this

theorem dslim_at (bb nb : Bool) (ao : Option Addr) (n ca : Nat) (f : Int) (w : World) (r : Bool) (hr : slimSays n f 20 2000 = r) :
    Calls Tryd.prog 10 #[.agg #[.bool bb, .bool nb, .slice ao n ca, .int .i64 f]] w fun e w' => e = .returned (.bool r) ∧ Ext w w' := by
  have := dslim_any bb nb ao n ca f w
  rwa [hr] at this

theorem refDValid_at {v : Value} {d : Dy} {w : World} (h : Dl w v d) (hT : Table w) (r : Bool) (hr : d.isSome = r) :
    Calls Tryd.prog 16 #[v] w fun e w' => e = .returned (.bool r) ∧ Ext w w' := by
  have := refDValid_any v d w h hT
  rwa [hr] at this

/-- the number of a raw dyad -/
def draw (bb : Bool) (x f : Int) : Dy := if bb then none else dmk x f

/-- what is known of a raw dyad that may be too long -/
def RawD (w : World) (_bb _nb : Bool) (ao : Option Addr) (n ca : Nat) (f : Int) : Prop := -9223372036854775808 ≤ f ∧ f ≤ 9223372036854775807 ∧ (n ≤ 1099511627776 → ∃ zs, Sl w ao n ca zs)

theorem RawD.slim {w : World} {bb nb : Bool} {ao : Option Addr} {n ca : Nat} {f : Int} (h : RawD w bb nb ao n ca f) (hs : slimSays n f 20 2000 = true) :
    ∃ d, Dl w (.agg #[.bool bb, .bool nb, .slice ao n ca, .int .i64 f]) d ∧ (d ≠ none → Slim d) := by
  obtain ⟨h1, h2, h3⟩ := h
  unfold slimSays at hs
  simp only [decide_eq_true_eq] at hs
  obtain ⟨hn, hf⟩ := hs
  obtain ⟨zs, hz⟩ := h3 (by omega)
  have hbg : Bg w nb ao n ca (sgd nb zs) := ⟨⟨zs, hz, rfl⟩, by omega⟩
  have hbl := bg_blen hbg
  refine ⟨_, ⟨bb, nb, ao, n, ca, _, f, rfl, hbg, by omega, h1, h2, rfl⟩, ?_⟩
  cases bb with
  | true => intro h; exact absurd rfl h
  | false => intro h; exact slim_of (by omega) (by omega) h

theorem none_parts {w : World} {r : Value} (h : Dn w r none) : ∃ nb ao n ca e, r = .agg #[.bool true, .bool nb, .slice ao n ca, .int .i64 e] ∧
    ∀ w : World, (Instr.field 29 (.agg #[.bool true, .bool nb, .slice ao n ca, .int .i64 e]) 0).run Tryd.prog w = .ok (.bool true) w := by
  obtain ⟨_, nb, ao, n, ca, rfl, _⟩ := h
  exact ⟨nb, ao, n, ca, dx none, rfl, fun _ => by kernel_rfl⟩
theorem DSt.dn0 {W w : World} {L : List DEnt} {v : Value} {d : Dy} (h : DSt W w (⟨v, d, true⟩ :: L)) (hd : d = none) : Dn w v none := by
  subst hd; exact h.dn (List.Mem.head _)

set_option maxRecDepth 100000 in
set_option maxHeartbeats 8000000 in
theorem dring_any (ab an : Bool) (ao : Option Addr) (ak ac : Nat) (af : Int) (bb bn : Bool) (bo : Option Addr) (bk bc : Nat) (bf : Int) (cb cn : Bool) (co : Option Addr) (ck cc : Nat) (cf : Int) (w : World) (ha : RawD w ab an ao ak ac af) (hb : RawD w bb bn bo bk bc bf) (hc : RawD w cb cn co ck cc cf) (hT : Table w) :
    Calls Tryd.prog 4 #[.agg #[.bool ab, .bool an, .slice ao ak ac, .int .i64 af], .agg #[.bool bb, .bool bn, .slice bo bk bc, .int .i64 bf], .agg #[.bool cb, .bool cn, .slice co ck cc, .int .i64 cf]] w fun e w' => e = .returned (.bool true) ∧ Ext w w' := by
  go_enter Tryd.func4, Tryd.ntmps4
  go_upto_region 1 with fail
  obtain ⟨W, hW, hB, hx, hy, hz⟩ := boxes_three_d w ab an ao ak ac af bb bn bo bk bc bf cb cn co ck cc cf
  rw [← hW]
  clear hW
  have ha : RawD W ab an ao ak ac af := ⟨ha.1, ha.2.1, fun h => by obtain ⟨zs, hs⟩ := ha.2.2 h; exact ⟨zs, hs.below hB⟩⟩
  have hb : RawD W bb bn bo bk bc bf := ⟨hb.1, hb.2.1, fun h => by obtain ⟨zs, hs⟩ := hb.2.2 h; exact ⟨zs, hs.below hB⟩⟩
  have hc : RawD W cb cn co ck cc cf := ⟨hc.1, hc.2.1, fun h => by obtain ⟨zs, hs⟩ := hc.2.2 h; exact ⟨zs, hs.below hB⟩⟩
  have HTW := Lib.hid (hT.below hB)
  have HB := Lib.hid (show Ext w W from hB)
  clear hB hT
  generalize w.heap.size = B at *
  have hcells : ∀ wx, Ext W wx → (wx.cell? ⟨B, 0, none⟩ = some (.bool ab) ∧ wx.cell? ⟨B, 1, none⟩ = some (.bool an) ∧ wx.cell? ⟨B, 2, none⟩ = some (.slice ao ak ac) ∧ wx.cell? ⟨B, 3, none⟩ = some (.int .i64 af)) ∧ (wx.cell? ⟨B + 1, 0, none⟩ = some (.bool bb) ∧ wx.cell? ⟨B + 1, 1, none⟩ = some (.bool bn) ∧ wx.cell? ⟨B + 1, 2, none⟩ = some (.slice bo bk bc) ∧ wx.cell? ⟨B + 1, 3, none⟩ = some (.int .i64 bf)) ∧ (wx.cell? ⟨B + 1 + 1, 0, none⟩ = some (.bool cb) ∧ wx.cell? ⟨B + 1 + 1, 1, none⟩ = some (.bool cn) ∧ wx.cell? ⟨B + 1 + 1, 2, none⟩ = some (.slice co ck cc) ∧ wx.cell? ⟨B + 1 + 1, 3, none⟩ = some (.int .i64 cf)) := fun wx h =>
    ⟨⟨(hx.ext h).c0, (hx.ext h).c1, (hx.ext h).c2, (hx.ext h).c3⟩, ⟨(hy.ext h).c0, (hy.ext h).c1, (hy.ext h).c2, (hy.ext h).c3⟩, (hz.ext h).c0, (hz.ext h).c1, (hz.ext h).c2, (hz.ext h).c3⟩
  have HC := Lib.hid hcells; clear hcells hx hy hz
  obtain ⟨⟨k0, k1, k2, k3⟩, ⟨l0, l1, l2, l3⟩, m0, m1, m2, m3⟩ := HC.out W (Ext.refl _)
  by_cases sa : slimSays ak af 20 2000 = true
  · have Sa := Lib.hid sa
    go_wp2_with fail
    refine (dslim_at ab an ao ak ac af _ true sa).mono ?_
    rintro e w1 ⟨rfl, hw1⟩
    have ex1 : Ext W w1 := hw1
    clear k0 k1 k2 k3 l0 l1 l2 l3 m0 m1 m2 m3 hw1 sa
    obtain ⟨⟨k0, k1, k2, k3⟩, ⟨l0, l1, l2, l3⟩, m0, m1, m2, m3⟩ := HC.out w1 ex1
    by_cases sb : slimSays bk bf 20 2000 = true
    · have Sb := Lib.hid sb
      go_wp2_with fail
      refine (dslim_at bb bn bo bk bc bf _ true sb).mono ?_
      rintro e w2 ⟨rfl, hw2⟩
      have ex2 : Ext W w2 := ex1.trans hw2
      clear k0 k1 k2 k3 l0 l1 l2 l3 m0 m1 m2 m3 hw2 sb
      obtain ⟨⟨k0, k1, k2, k3⟩, ⟨l0, l1, l2, l3⟩, m0, m1, m2, m3⟩ := HC.out w2 ex2
      by_cases sc : slimSays ck cf 20 2000 = true
      · have Sc := Lib.hid sc
        go_wp2_with fail
        refine (dslim_at cb cn co ck cc cf _ true sc).mono ?_
        rintro e w3 ⟨rfl, hw3⟩
        have ex3 : Ext W w3 := ex2.trans hw3
        clear k0 k1 k2 k3 l0 l1 l2 l3 m0 m1 m2 m3 hw3 sc
        obtain ⟨⟨k0, k1, k2, k3⟩, ⟨l0, l1, l2, l3⟩, m0, m1, m2, m3⟩ := HC.out w3 ex3
        obtain ⟨da, Da, Qa⟩ := ha.slim Sa.out
        obtain ⟨db, Db, Qb⟩ := hb.slim Sb.out
        obtain ⟨dc, Dc, Qc⟩ := hc.slim Sc.out
        clear ha hb hc
        have Qa := Lib.hid Qa
        have Da : ∀ wx, Ext W wx → Dl wx (.agg #[.bool ab, .bool an, .slice ao ak ac, .int .i64 af]) da := fun wx h => Da.ext h
        have Da := Lib.hid Da
        have Qb := Lib.hid Qb
        have Db : ∀ wx, Ext W wx → Dl wx (.agg #[.bool bb, .bool bn, .slice bo bk bc, .int .i64 bf]) db := fun wx h => Db.ext h
        have Db := Lib.hid Db
        have Qc := Lib.hid Qc
        have Dc : ∀ wx, Ext W wx → Dl wx (.agg #[.bool cb, .bool cn, .slice co ck cc, .int .i64 cf]) dc := fun wx h => Dc.ext h
        have Dc := Lib.hid Dc
        have hst : DSt W w3 [⟨.agg #[.bool ab, .bool an, .slice ao ak ac, .int .i64 af], da, false⟩, ⟨.agg #[.bool bb, .bool bn, .slice bo bk bc, .int .i64 bf], db, false⟩, ⟨.agg #[.bool cb, .bool cn, .slice co ck cc, .int .i64 cf], dc, false⟩] :=
          ⟨ex3, HTW.out.below ex3, fun p hp => by
            simp only [List.mem_cons, List.not_mem_nil, or_false] at hp
            rcases hp with rfl | rfl | rfl
            · exact dok_dg (Da.out _ ex3).dg
            · exact dok_dg (Db.out _ ex3).dg
            · exact dok_dg (Dc.out _ ex3).dg⟩
        by_cases va : da = none
        · have VA := Lib.hid va
          clear va
          go_wp2_with fail
          refine (refDValid_at (Da.out _ hst.ext) hst.tab false (by rw [VA.out]; rfl)).mono ?_
          rintro e w4 ⟨rfl, hw4⟩
          have hst := hst.step hw4
          clear k0 k1 k2 k3 l0 l1 l2 l3 m0 m1 m2 m3 hw4
          obtain ⟨⟨k0, k1, k2, k3⟩, ⟨l0, l1, l2, l3⟩, m0, m1, m2, m3⟩ := HC.out _ hst.ext
          go_wp2_with fail
          refine (dadd_bag hst (List.Mem.head _) (List.Mem.tail _ (List.Mem.head _))).mono ?_
          rintro e w5 ⟨r0, rfl, hst⟩
          obtain ⟨n0, o0, q0, c0, e0, hr0, f0⟩ := none_parts (hst.dn0 (by rw [VA.out]; exact dadd_none _))
          subst hr0
          clear k0 k1 k2 k3 l0 l1 l2 l3 m0 m1 m2 m3
          obtain ⟨⟨k0, k1, k2, k3⟩, ⟨l0, l1, l2, l3⟩, m0, m1, m2, m3⟩ := HC.out _ hst.ext
          go_wp2_with fail
          refine (dmul_bag hst (List.Mem.tail _ (List.Mem.tail _ (List.Mem.head _))) (List.Mem.tail _ (List.Mem.head _)) (Or.inr (by rw [VA.out]; simp [dm, blen]))).mono ?_
          rintro e w6 ⟨r1, rfl, hst⟩
          obtain ⟨n1, o1, q1, c1, e1, hr1, f1⟩ := none_parts (hst.dn0 (by rw [VA.out]; exact dmul_none' _))
          subst hr1
          clear k0 k1 k2 k3 l0 l1 l2 l3 m0 m1 m2 m3
          obtain ⟨⟨k0, k1, k2, k3⟩, ⟨l0, l1, l2, l3⟩, m0, m1, m2, m3⟩ := HC.out _ hst.ext
          go_wp2_with fail
          refine (dsub_bag hst (List.Mem.tail _ (List.Mem.tail _ (List.Mem.tail _ (List.Mem.head _)))) (List.Mem.tail _ (List.Mem.tail _ (List.Mem.head _)))).mono ?_
          rintro e w7 ⟨r2, rfl, hst⟩
          obtain ⟨n2, o2, q2, c2, e2, hr2, f2⟩ := none_parts (hst.dn0 (by rw [VA.out]; exact dsub_none' _))
          subst hr2
          clear k0 k1 k2 k3 l0 l1 l2 l3 m0 m1 m2 m3
          obtain ⟨⟨k0, k1, k2, k3⟩, ⟨l0, l1, l2, l3⟩, m0, m1, m2, m3⟩ := HC.out _ hst.ext
          go_wp2_with fail
          refine (dneg_bag hst (List.Mem.tail _ (List.Mem.tail _ (List.Mem.tail _ (List.Mem.head _))))).mono ?_
          rintro e w8 ⟨r3, rfl, hst⟩
          obtain ⟨n3, o3, q3, c3, e3, hr3, f3⟩ := none_parts (hst.dn0 (by rw [VA.out]; rfl))
          subst hr3
          clear k0 k1 k2 k3 l0 l1 l2 l3 m0 m1 m2 m3
          obtain ⟨⟨k0, k1, k2, k3⟩, ⟨l0, l1, l2, l3⟩, m0, m1, m2, m3⟩ := HC.out _ hst.ext
          go_wp2_with fail
          refine (dsign_bag hst (List.Mem.tail _ (List.Mem.tail _ (List.Mem.tail _ (List.Mem.tail _ (List.Mem.head _))))) 0 (by rw [VA.out]; rfl)).mono ?_
          rintro e w9 ⟨rfl, hst⟩
          go_wp2_with fail
          refine (dawake_bag hst).mono ?_
          rintro e w10 ⟨rfl, hst⟩
          go_wp2
          go_ret
          exact ⟨rfl, HB.out.trans hst.ext⟩
        · have VA := Lib.hid va
          clear va
          go_wp2_with fail
          refine (refDValid_at (Da.out _ hst.ext) hst.tab true (by cases da with | none => exact absurd rfl VA.out | some p => rfl)).mono ?_
          rintro e w4 ⟨rfl, hw4⟩
          have hst := hst.step hw4
          clear k0 k1 k2 k3 l0 l1 l2 l3 m0 m1 m2 m3 hw4
          obtain ⟨⟨k0, k1, k2, k3⟩, ⟨l0, l1, l2, l3⟩, m0, m1, m2, m3⟩ := HC.out _ hst.ext
          by_cases vb : db = none
          · have VB := Lib.hid vb
            clear vb
            go_wp2_with fail
            refine (refDValid_at (Db.out _ hst.ext) hst.tab false (by rw [VB.out]; rfl)).mono ?_
            rintro e w5 ⟨rfl, hw5⟩
            have hst := hst.step hw5
            go_wp2_with fail
            refine (dawake_bag hst).mono ?_
            rintro e w10 ⟨rfl, hst⟩
            go_wp2
            go_ret
            exact ⟨rfl, HB.out.trans hst.ext⟩
          · have VB := Lib.hid vb
            clear vb
            go_wp2_with fail
            refine (refDValid_at (Db.out _ hst.ext) hst.tab true (by cases db with | none => exact absurd rfl VB.out | some p => rfl)).mono ?_
            rintro e w5 ⟨rfl, hw5⟩
            have hst := hst.step hw5
            clear k0 k1 k2 k3 l0 l1 l2 l3 m0 m1 m2 m3 hw5
            obtain ⟨⟨k0, k1, k2, k3⟩, ⟨l0, l1, l2, l3⟩, m0, m1, m2, m3⟩ := HC.out _ hst.ext
            by_cases vc : dc = none
            · have VC := Lib.hid vc
              clear vc
              go_wp2_with fail
              refine (refDValid_at (Dc.out _ hst.ext) hst.tab false (by rw [VC.out]; rfl)).mono ?_
              rintro e w6 ⟨rfl, hw6⟩
              have hst := hst.step hw6
              go_wp2_with fail
              refine (dawake_bag hst).mono ?_
              rintro e w10 ⟨rfl, hst⟩
              go_wp2
              go_ret
              exact ⟨rfl, HB.out.trans hst.ext⟩
            · have VC := Lib.hid vc
              clear vc
              go_wp2_with fail
              refine (refDValid_at (Dc.out _ hst.ext) hst.tab true (by cases dc with | none => exact absurd rfl VC.out | some p => rfl)).mono ?_
              rintro e w6 ⟨rfl, hw6⟩
              have hst := hst.step hw6
              clear k0 k1 k2 k3 l0 l1 l2 l3 m0 m1 m2 m3 hw6
              have LA := Qa.out VA.out
              have LB := Qb.out VB.out
              have LC := Qc.out VC.out
              have MA := Lib.hid (show blen (dm da).natAbs ≤ 3100 by have := LA.1; omega)
              have MB := Lib.hid (show blen (dm db).natAbs ≤ 3100 by have := LB.1; omega)
              have MC := Lib.hid (show blen (dm dc).natAbs ≤ 3100 by have := LC.1; omega)
              have E1 := Lib.hid (dadd_comm da db)
              have E2 := Lib.hid (dmul_comm da db)
              have E3 := Lib.hid (slim_sub LA)
              have E4 := Lib.hid (slim_addAssoc LA LB LC)
              have E5 := Lib.hid (slim_mulAssoc LA LB LC)
              have E6 := Lib.hid (slim_distrib LA LB LC)
              clear LA LB LC
              obtain ⟨⟨k0, k1, k2, k3⟩, ⟨l0, l1, l2, l3⟩, m0, m1, m2, m3⟩ := HC.out _ hst.ext
              go_wp2_with fail
              have std := hst.drew
              go_region_held3 (fun wx => (wx.cell? ⟨B, 0, none⟩ = some (.bool ab) ∧ wx.cell? ⟨B, 1, none⟩ = some (.bool an) ∧ wx.cell? ⟨B, 2, none⟩ = some (.slice ao ak ac) ∧ wx.cell? ⟨B, 3, none⟩ = some (.int .i64 af)) ∧ (wx.cell? ⟨B + 1, 0, none⟩ = some (.bool bb) ∧ wx.cell? ⟨B + 1, 1, none⟩ = some (.bool bn) ∧ wx.cell? ⟨B + 1, 2, none⟩ = some (.slice bo bk bc) ∧ wx.cell? ⟨B + 1, 3, none⟩ = some (.int .i64 bf)) ∧ (wx.cell? ⟨B + 1 + 1, 0, none⟩ = some (.bool cb) ∧ wx.cell? ⟨B + 1 + 1, 1, none⟩ = some (.bool cn) ∧ wx.cell? ⟨B + 1 + 1, 2, none⟩ = some (.slice co ck cc) ∧ wx.cell? ⟨B + 1 + 1, 3, none⟩ = some (.int .i64 cf)))
                (first | exact HC.out _ (by exact DSt.ext (by assumption)))
                (first
                  | (go_at_call 13; refine (dadd_bag (W := W) (by assumption) (by repeat (first | exact List.Mem.head _ | refine List.Mem.tail _ ?_)) (by repeat (first | exact List.Mem.head _ | refine List.Mem.tail _ ?_))).mono ?_; rintro e wn ⟨r, rfl, stn⟩)
                  | (go_at_call 18; refine (dsub_bag (W := W) (by assumption) (by repeat (first | exact List.Mem.head _ | refine List.Mem.tail _ ?_)) (by repeat (first | exact List.Mem.head _ | refine List.Mem.tail _ ?_))).mono ?_; rintro e wn ⟨r, rfl, stn⟩)
                  | (go_at_call 17; refine (dmul_bag (W := W) (by assumption) (by repeat (first | exact List.Mem.head _ | refine List.Mem.tail _ ?_)) (by repeat (first | exact List.Mem.head _ | refine List.Mem.tail _ ?_)) (by first | exact Or.inl MA.out | exact Or.inl MB.out | exact Or.inl MC.out | exact Or.inr MA.out | exact Or.inr MB.out | exact Or.inr MC.out)).mono ?_; rintro e wn ⟨r, rfl, stn⟩)
                  | (go_at_call 20; refine (dsign_bag (W := W) (by assumption) (by repeat (first | exact List.Mem.head _ | refine List.Mem.tail _ ?_)) 0 (by exact E3.out)).mono ?_; rintro e wn ⟨rfl, stn⟩)
                  | (go_at_call 9; refine (dawake_bag (W := W) (by assumption)).mono ?_; rintro e wn ⟨rfl, stn⟩)
                  | (go_at_call 21; refine (dsame_bag (W := W) (by assumption) (by repeat (first | exact List.Mem.head _ | refine List.Mem.tail _ ?_)) (by repeat (first | exact List.Mem.head _ | refine List.Mem.tail _ ?_)) true (decide_eq_true (by first | exact E1.out | exact E2.out | exact E4.out | exact E5.out | exact E6.out))).mono ?_; rintro e wn ⟨rfl, stn⟩))
              clear std k0 k1 k2 k3 l0 l1 l2 l3 m0 m1 m2 m3 hst
              obtain ⟨⟨k0, k1, k2, k3⟩, ⟨l0, l1, l2, l3⟩, m0, m1, m2, m3⟩ := HC.out _ stn.ext
              go_wp2_with fail
              have std := stn.drew
              go_region_held3 (fun wx => (wx.cell? ⟨B, 0, none⟩ = some (.bool ab) ∧ wx.cell? ⟨B, 1, none⟩ = some (.bool an) ∧ wx.cell? ⟨B, 2, none⟩ = some (.slice ao ak ac) ∧ wx.cell? ⟨B, 3, none⟩ = some (.int .i64 af)) ∧ (wx.cell? ⟨B + 1, 0, none⟩ = some (.bool bb) ∧ wx.cell? ⟨B + 1, 1, none⟩ = some (.bool bn) ∧ wx.cell? ⟨B + 1, 2, none⟩ = some (.slice bo bk bc) ∧ wx.cell? ⟨B + 1, 3, none⟩ = some (.int .i64 bf)) ∧ (wx.cell? ⟨B + 1 + 1, 0, none⟩ = some (.bool cb) ∧ wx.cell? ⟨B + 1 + 1, 1, none⟩ = some (.bool cn) ∧ wx.cell? ⟨B + 1 + 1, 2, none⟩ = some (.slice co ck cc) ∧ wx.cell? ⟨B + 1 + 1, 3, none⟩ = some (.int .i64 cf)))
                (first | exact HC.out _ (by exact DSt.ext (by assumption)))
                (first
                  | (go_at_call 13; refine (dadd_bag (W := W) (by assumption) (by repeat (first | exact List.Mem.head _ | refine List.Mem.tail _ ?_)) (by repeat (first | exact List.Mem.head _ | refine List.Mem.tail _ ?_))).mono ?_; rintro e wn ⟨r, rfl, stn⟩)
                  | (go_at_call 18; refine (dsub_bag (W := W) (by assumption) (by repeat (first | exact List.Mem.head _ | refine List.Mem.tail _ ?_)) (by repeat (first | exact List.Mem.head _ | refine List.Mem.tail _ ?_))).mono ?_; rintro e wn ⟨r, rfl, stn⟩)
                  | (go_at_call 17; refine (dmul_bag (W := W) (by assumption) (by repeat (first | exact List.Mem.head _ | refine List.Mem.tail _ ?_)) (by repeat (first | exact List.Mem.head _ | refine List.Mem.tail _ ?_)) (by first | exact Or.inl MA.out | exact Or.inl MB.out | exact Or.inl MC.out | exact Or.inr MA.out | exact Or.inr MB.out | exact Or.inr MC.out)).mono ?_; rintro e wn ⟨r, rfl, stn⟩)
                  | (go_at_call 20; refine (dsign_bag (W := W) (by assumption) (by repeat (first | exact List.Mem.head _ | refine List.Mem.tail _ ?_)) 0 (by exact E3.out)).mono ?_; rintro e wn ⟨rfl, stn⟩)
                  | (go_at_call 9; refine (dawake_bag (W := W) (by assumption)).mono ?_; rintro e wn ⟨rfl, stn⟩)
                  | (go_at_call 21; refine (dsame_bag (W := W) (by assumption) (by repeat (first | exact List.Mem.head _ | refine List.Mem.tail _ ?_)) (by repeat (first | exact List.Mem.head _ | refine List.Mem.tail _ ?_)) true (decide_eq_true (by first | exact E1.out | exact E2.out | exact E4.out | exact E5.out | exact E6.out))).mono ?_; rintro e wn ⟨rfl, stn⟩))
              clear std k0 k1 k2 k3 l0 l1 l2 l3 m0 m1 m2 m3
              obtain ⟨⟨k0, k1, k2, k3⟩, ⟨l0, l1, l2, l3⟩, m0, m1, m2, m3⟩ := HC.out _ stn.ext
              go_wp2_with fail
              have std := stn.drew
              go_region_held3 (fun wx => (wx.cell? ⟨B, 0, none⟩ = some (.bool ab) ∧ wx.cell? ⟨B, 1, none⟩ = some (.bool an) ∧ wx.cell? ⟨B, 2, none⟩ = some (.slice ao ak ac) ∧ wx.cell? ⟨B, 3, none⟩ = some (.int .i64 af)) ∧ (wx.cell? ⟨B + 1, 0, none⟩ = some (.bool bb) ∧ wx.cell? ⟨B + 1, 1, none⟩ = some (.bool bn) ∧ wx.cell? ⟨B + 1, 2, none⟩ = some (.slice bo bk bc) ∧ wx.cell? ⟨B + 1, 3, none⟩ = some (.int .i64 bf)) ∧ (wx.cell? ⟨B + 1 + 1, 0, none⟩ = some (.bool cb) ∧ wx.cell? ⟨B + 1 + 1, 1, none⟩ = some (.bool cn) ∧ wx.cell? ⟨B + 1 + 1, 2, none⟩ = some (.slice co ck cc) ∧ wx.cell? ⟨B + 1 + 1, 3, none⟩ = some (.int .i64 cf)))
                (first | exact HC.out _ (by exact DSt.ext (by assumption)))
                (first
                  | (go_at_call 13; refine (dadd_bag (W := W) (by assumption) (by repeat (first | exact List.Mem.head _ | refine List.Mem.tail _ ?_)) (by repeat (first | exact List.Mem.head _ | refine List.Mem.tail _ ?_))).mono ?_; rintro e wn ⟨r, rfl, stn⟩)
                  | (go_at_call 18; refine (dsub_bag (W := W) (by assumption) (by repeat (first | exact List.Mem.head _ | refine List.Mem.tail _ ?_)) (by repeat (first | exact List.Mem.head _ | refine List.Mem.tail _ ?_))).mono ?_; rintro e wn ⟨r, rfl, stn⟩)
                  | (go_at_call 17; refine (dmul_bag (W := W) (by assumption) (by repeat (first | exact List.Mem.head _ | refine List.Mem.tail _ ?_)) (by repeat (first | exact List.Mem.head _ | refine List.Mem.tail _ ?_)) (by first | exact Or.inl MA.out | exact Or.inl MB.out | exact Or.inl MC.out | exact Or.inr MA.out | exact Or.inr MB.out | exact Or.inr MC.out)).mono ?_; rintro e wn ⟨r, rfl, stn⟩)
                  | (go_at_call 20; refine (dsign_bag (W := W) (by assumption) (by repeat (first | exact List.Mem.head _ | refine List.Mem.tail _ ?_)) 0 (by exact E3.out)).mono ?_; rintro e wn ⟨rfl, stn⟩)
                  | (go_at_call 9; refine (dawake_bag (W := W) (by assumption)).mono ?_; rintro e wn ⟨rfl, stn⟩)
                  | (go_at_call 21; refine (dsame_bag (W := W) (by assumption) (by repeat (first | exact List.Mem.head _ | refine List.Mem.tail _ ?_)) (by repeat (first | exact List.Mem.head _ | refine List.Mem.tail _ ?_)) true (decide_eq_true (by first | exact E1.out | exact E2.out | exact E4.out | exact E5.out | exact E6.out))).mono ?_; rintro e wn ⟨rfl, stn⟩))
              clear std k0 k1 k2 k3 l0 l1 l2 l3 m0 m1 m2 m3
              go_wp2
              go_ret
              exact ⟨rfl, HB.out.trans stn.ext⟩
      · have sc : slimSays ck cf 20 2000 = false := by simpa using sc
        go_wp2_with fail
        refine (dslim_at cb cn co ck cc cf _ false sc).mono ?_
        rintro e v1 ⟨rfl, hv1⟩
        have exv : Ext W v1 := ex2.trans hv1
        go_wp2_with fail
        refine (dawake_any _ (HTW.out.below exv)).mono ?_
        rintro e v2 ⟨rfl, hv2⟩
        go_wp2
        go_ret
        exact ⟨rfl, HB.out.trans (exv.trans hv2)⟩
    · have sb : slimSays bk bf 20 2000 = false := by simpa using sb
      go_wp2_with fail
      refine (dslim_at bb bn bo bk bc bf _ false sb).mono ?_
      rintro e v1 ⟨rfl, hv1⟩
      have exv : Ext W v1 := ex1.trans hv1
      go_wp2_with fail
      refine (dawake_any _ (HTW.out.below exv)).mono ?_
      rintro e v2 ⟨rfl, hv2⟩
      go_wp2
      go_ret
      exact ⟨rfl, HB.out.trans (exv.trans hv2)⟩
  · have sa : slimSays ak af 20 2000 = false := by simpa using sa
    go_wp2_with fail
    refine (dslim_at ab an ao ak ac af _ false sa).mono ?_
    rintro e v1 ⟨rfl, hv1⟩
    have exv : Ext W v1 := hv1
    go_wp2_with fail
    refine (dawake_any _ (HTW.out.below exv)).mono ?_
    rintro e v2 ⟨rfl, hv2⟩
    go_wp2
    go_ret
    exact ⟨rfl, HB.out.trans (exv.trans hv2)⟩
end Go.Proofs.YtimehdepiigkgaaDoor
