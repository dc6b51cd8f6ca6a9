/- IntegerRing returns true, from what its callees do. -/
import Derived.Test.YtpmbmemfoljfpaaDoorGc
import Derived.Deep.RegionHeld3
namespace Go.Proofs.YtpmbmemfoljfpaaDoor
open Go.RowKit

/-- what the check of fixed numbers gives -/
def AwakeSays (W : World) : Prop := ∀ w, Ext W w → Calls Tryd.prog 19 #[] w fun e w' => e = .returned (.bool true) ∧ Ext w w'

theorem boxes_in (w : World) (nb : Bool) (ao : Option Addr) (n ca : Nat) (mb : Bool) (bo : Option Addr) (m cb : Nat) (lb : Bool) (co : Option Addr) (l cc : Nat) :
    ∃ W, W = ((w.alloc (.cells #[.bool nb, .slice ao n ca] 24)).alloc (.cells #[.bool mb, .slice bo m cb] 24)).alloc (.cells #[.bool lb, .slice co l cc] 24) ∧ Ext w W ∧
      Box W w.heap.size nb ao n ca ∧ Box W (w.heap.size + 1) mb bo m cb ∧ Box W (w.heap.size + 1 + 1) lb co l cc := by
  refine ⟨_, rfl, (((Below.refl _ w).alloc (Nat.le_refl _) _).alloc (by simp) _).alloc (by simp; omega) _, ?_, ?_, ?_⟩
  · exact (Box.new w nb ao n ca).below (((Below.refl _ _).alloc (Nat.le_refl _) _).alloc (by simp) _)
  · have := (Box.new (w.alloc (.cells #[.bool nb, .slice ao n ca] 24)) mb bo m cb).below ((Below.refl _ _).alloc (Nat.le_refl _) (.cells #[.bool lb, .slice co l cc] 24))
    simpa using this
  · have := Box.new ((w.alloc (.cells #[.bool nb, .slice ao n ca] 24)).alloc (.cells #[.bool mb, .slice bo m cb] 24)) lb co l cc
    simpa using this

set_option maxRecDepth 100000 in
set_option maxHeartbeats 4000000 in
theorem ring_yes (nb mb lb : Bool) (ao bo co : Option Addr) (n m l ca cb cc : Nat) (xs ys zs : List Int) (w : World) (ha : Sl w ao n ca xs) (hb : Sl w bo m cb ys) (hc : Sl w co l cc zs) (hn : n ≤ 40) (hm : m ≤ 40) (hl : l ≤ 40) (haw : AwakeSays w) :
    Calls Tryd.prog 5 #[.agg #[.bool nb, .slice ao n ca], .agg #[.bool mb, .slice bo m cb], .agg #[.bool lb, .slice co l cc]] w fun e w' => e = .returned (.bool true) ∧ Ext w w' := by
  go_enter Tryd.func5, Tryd.ntmps5
  go_wp2_with fail
  obtain ⟨W, hW, hB, hx, hy, hz⟩ := boxes_in w nb ao n ca mb bo m cb lb co l cc
  rw [← hW]
  clear hW
  have ra := ok_raw (nb := nb) (ha.below hB) 40 hn (by omega)
  have rb := ok_raw (nb := mb) (hb.below hB) 40 hm (by omega)
  have rc := ok_raw (nb := lb) (hc.below hB) 40 hl (by omega)
  have hAW : AwakeSays W := fun w' h => haw w' (hB.trans h)
  generalize sgd nb xs = x at *
  generalize sgd mb ys = y at *
  generalize sgd lb zs = z at *
  generalize hg : w.heap.size = B at *
  have HG := Lib.hid hg; clear hg
  have hst : St W W [⟨.agg #[.bool nb, .slice ao n ca], x, 40, false⟩, ⟨.agg #[.bool mb, .slice bo m cb], y, 40, false⟩, ⟨.agg #[.bool lb, .slice co l cc], z, 40, false⟩, ⟨.agg #[.bool false, .slice none 0 0], 0, 0, true⟩] :=
    ⟨Ext.refl W, fun p hp => by
      simp only [List.mem_cons, List.not_mem_nil, or_false] at hp
      rcases hp with rfl | rfl | rfl | rfl
      · exact ra
      · exact rb
      · exact rc
      · exact ok_zero W⟩
  have HB := Lib.hid hB
  clear ha hb hc ra rb rc hB haw
  have hcells : ∀ wx, Ext W wx → (wx.cell? ⟨B, 0, none⟩ = some (.bool nb) ∧ wx.cell? ⟨B, 1, none⟩ = some (.slice ao n ca) ∧ wx.cell? ⟨B + 1, 0, none⟩ = some (.bool mb) ∧ wx.cell? ⟨B + 1, 1, none⟩ = some (.slice bo m cb) ∧ wx.cell? ⟨B + 1 + 1, 0, none⟩ = some (.bool lb) ∧ wx.cell? ⟨B + 1 + 1, 1, none⟩ = some (.slice co l cc)) := fun wx h =>
    ⟨(hx.below h).c0, (hx.below h).c1, (hy.below h).c0, (hy.below h).c1, (hz.below h).c0, (hz.below h).c1⟩
  have HC := Lib.hid hcells
  clear hcells hx hy hz
  refine (slim_yes nb ao n ca 40 _ hn).mono ?_
  rintro e w1 ⟨rfl, h1⟩
  have st1 := hst.step h1
  obtain ⟨d0, d1, d2, d3, d4, d5⟩ := HC.out w1 st1.ext
  clear h1
  go_wp2_with fail
  refine (slim_yes mb bo m cb 40 _ hm).mono ?_
  rintro e w2 ⟨rfl, h2⟩
  have st2 := st1.step h2
  clear d0 d1 d2 d3 d4 d5 st1 h2
  obtain ⟨d0, d1, d2, d3, d4, d5⟩ := HC.out w2 st2.ext
  go_wp2_with fail
  refine (slim_yes lb co l cc 40 _ hl).mono ?_
  rintro e w3 ⟨rfl, h3⟩
  have st3 := st2.step h3
  clear d0 d1 d2 d3 d4 d5 st2 h3 hst
  obtain ⟨d0, d1, d2, d3, d4, d5⟩ := HC.out w3 st3.ext
  go_wp2_with fail
  have std := st3.drew
  go_region_held3 (fun wx => wx.cell? ⟨B, 0, none⟩ = some (.bool nb) ∧ wx.cell? ⟨B, 1, none⟩ = some (.slice ao n ca) ∧ wx.cell? ⟨B + 1, 0, none⟩ = some (.bool mb) ∧ wx.cell? ⟨B + 1, 1, none⟩ = some (.slice bo m cb) ∧ wx.cell? ⟨B + 1 + 1, 0, none⟩ = some (.bool lb) ∧ wx.cell? ⟨B + 1 + 1, 1, none⟩ = some (.slice co l cc))
    (first | exact HC.out _ (by exact St.ext (by assumption)))
    (first
      | (go_at_call 36; refine (add_bag (W := W) (by assumption) (by repeat (first | exact List.Mem.head _ | refine List.Mem.tail _ ?_)) (by repeat (first | exact List.Mem.head _ | refine List.Mem.tail _ ?_)) (by omega) (by omega)).mono ?_; rintro e wn ⟨r, rfl, stn⟩)
      | (go_at_call 38; refine (sub_bag (W := W) (by assumption) (by repeat (first | exact List.Mem.head _ | refine List.Mem.tail _ ?_)) (by repeat (first | exact List.Mem.head _ | refine List.Mem.tail _ ?_)) (by omega) (by omega)).mono ?_; rintro e wn ⟨r, rfl, stn⟩)
      | (go_at_call 40; refine (mul_bag (W := W) (by assumption) (by repeat (first | exact List.Mem.head _ | refine List.Mem.tail _ ?_)) (by repeat (first | exact List.Mem.head _ | refine List.Mem.tail _ ?_)) (by omega) (by omega) (by omega)).mono ?_; rintro e wn ⟨r, rfl, stn⟩)
      | (go_at_call 24; refine (norm_bag (W := W) (by assumption) (by repeat (first | exact List.Mem.head _ | refine List.Mem.tail _ ?_)) (by omega)).mono ?_; rintro e wn ⟨r, rfl, stn⟩)
      | (go_at_call 19; refine (hAW _ (by exact St.ext (by assumption))).mono ?_; rintro e wn ⟨rfl, hwn⟩; have stn := St.step (W := W) (by assumption) hwn)
      | (go_at_call 23; refine (big_bag (W := W) (by assumption) (by repeat (first | exact List.Mem.head _ | refine List.Mem.tail _ ?_)) (by repeat (first | exact List.Mem.head _ | refine List.Mem.tail _ ?_)) (by first | omega | exact Int.mul_comm _ _ | exact Int.mul_assoc _ _ _ | exact Int.add_mul _ _ _)).mono ?_; rintro e wn ⟨rfl, stn⟩))
  clear std st3 d0 d1 d2 d3 d4 d5
  obtain ⟨d0, d1, d2, d3, d4, d5⟩ := HC.out _ stn.ext
  go_wp2_with fail
  have std := stn.drew
  go_region_held3 (fun wx => wx.cell? ⟨B, 0, none⟩ = some (.bool nb) ∧ wx.cell? ⟨B, 1, none⟩ = some (.slice ao n ca) ∧ wx.cell? ⟨B + 1, 0, none⟩ = some (.bool mb) ∧ wx.cell? ⟨B + 1, 1, none⟩ = some (.slice bo m cb) ∧ wx.cell? ⟨B + 1 + 1, 0, none⟩ = some (.bool lb) ∧ wx.cell? ⟨B + 1 + 1, 1, none⟩ = some (.slice co l cc))
    (first | exact HC.out _ (by exact St.ext (by assumption)))
    (first
      | (go_at_call 36; refine (add_bag (W := W) (by assumption) (by repeat (first | exact List.Mem.head _ | refine List.Mem.tail _ ?_)) (by repeat (first | exact List.Mem.head _ | refine List.Mem.tail _ ?_)) (by omega) (by omega)).mono ?_; rintro e wn ⟨r, rfl, stn⟩)
      | (go_at_call 38; refine (sub_bag (W := W) (by assumption) (by repeat (first | exact List.Mem.head _ | refine List.Mem.tail _ ?_)) (by repeat (first | exact List.Mem.head _ | refine List.Mem.tail _ ?_)) (by omega) (by omega)).mono ?_; rintro e wn ⟨r, rfl, stn⟩)
      | (go_at_call 40; refine (mul_bag (W := W) (by assumption) (by repeat (first | exact List.Mem.head _ | refine List.Mem.tail _ ?_)) (by repeat (first | exact List.Mem.head _ | refine List.Mem.tail _ ?_)) (by omega) (by omega) (by omega)).mono ?_; rintro e wn ⟨r, rfl, stn⟩)
      | (go_at_call 24; refine (norm_bag (W := W) (by assumption) (by repeat (first | exact List.Mem.head _ | refine List.Mem.tail _ ?_)) (by omega)).mono ?_; rintro e wn ⟨r, rfl, stn⟩)
      | (go_at_call 19; refine (hAW _ (by exact St.ext (by assumption))).mono ?_; rintro e wn ⟨rfl, hwn⟩; have stn := St.step (W := W) (by assumption) hwn)
      | (go_at_call 23; refine (big_bag (W := W) (by assumption) (by repeat (first | exact List.Mem.head _ | refine List.Mem.tail _ ?_)) (by repeat (first | exact List.Mem.head _ | refine List.Mem.tail _ ?_)) (by first | omega | exact Int.mul_comm _ _ | exact Int.mul_assoc _ _ _ | exact Int.add_mul _ _ _)).mono ?_; rintro e wn ⟨rfl, stn⟩))
  clear std d0 d1 d2 d3 d4 d5
  obtain ⟨d0, d1, d2, d3, d4, d5⟩ := HC.out _ stn.ext
  go_wp2_with fail
  have std := stn.drew
  go_region_held3 (fun wx => wx.cell? ⟨B, 0, none⟩ = some (.bool nb) ∧ wx.cell? ⟨B, 1, none⟩ = some (.slice ao n ca) ∧ wx.cell? ⟨B + 1, 0, none⟩ = some (.bool mb) ∧ wx.cell? ⟨B + 1, 1, none⟩ = some (.slice bo m cb) ∧ wx.cell? ⟨B + 1 + 1, 0, none⟩ = some (.bool lb) ∧ wx.cell? ⟨B + 1 + 1, 1, none⟩ = some (.slice co l cc))
    (first | exact HC.out _ (by exact St.ext (by assumption)))
    (first
      | (go_at_call 36; refine (add_bag (W := W) (by assumption) (by repeat (first | exact List.Mem.head _ | refine List.Mem.tail _ ?_)) (by repeat (first | exact List.Mem.head _ | refine List.Mem.tail _ ?_)) (by omega) (by omega)).mono ?_; rintro e wn ⟨r, rfl, stn⟩)
      | (go_at_call 38; refine (sub_bag (W := W) (by assumption) (by repeat (first | exact List.Mem.head _ | refine List.Mem.tail _ ?_)) (by repeat (first | exact List.Mem.head _ | refine List.Mem.tail _ ?_)) (by omega) (by omega)).mono ?_; rintro e wn ⟨r, rfl, stn⟩)
      | (go_at_call 40; refine (mul_bag (W := W) (by assumption) (by repeat (first | exact List.Mem.head _ | refine List.Mem.tail _ ?_)) (by repeat (first | exact List.Mem.head _ | refine List.Mem.tail _ ?_)) (by omega) (by omega) (by omega)).mono ?_; rintro e wn ⟨r, rfl, stn⟩)
      | (go_at_call 24; refine (norm_bag (W := W) (by assumption) (by repeat (first | exact List.Mem.head _ | refine List.Mem.tail _ ?_)) (by omega)).mono ?_; rintro e wn ⟨r, rfl, stn⟩)
      | (go_at_call 19; refine (hAW _ (by exact St.ext (by assumption))).mono ?_; rintro e wn ⟨rfl, hwn⟩; have stn := St.step (W := W) (by assumption) hwn)
      | (go_at_call 23; refine (big_bag (W := W) (by assumption) (by repeat (first | exact List.Mem.head _ | refine List.Mem.tail _ ?_)) (by repeat (first | exact List.Mem.head _ | refine List.Mem.tail _ ?_)) (by first | omega | exact Int.mul_comm _ _ | exact Int.mul_assoc _ _ _ | exact Int.add_mul _ _ _)).mono ?_; rintro e wn ⟨rfl, stn⟩))
  go_wp2
  go_ret
  refine ⟨rfl, ?_⟩
  have h := stn.ext
  exact HB.out.trans h
end Go.Proofs.YtpmbmemfoljfpaaDoor
