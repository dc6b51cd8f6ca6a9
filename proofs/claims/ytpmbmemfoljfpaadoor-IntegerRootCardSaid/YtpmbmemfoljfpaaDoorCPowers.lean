/- IntegerPowers returns true, from what its callees do. -/
import Derived.Test.YtpmbmemfoljfpaaDoorGg
import Derived.Test.YtpmbmemfoljfpaaDoorCRing
import Derived.Deep.CutRange
namespace Go.Proofs.YtpmbmemfoljfpaaDoor
open Go.RowKit

theorem Box.ext {w w' : World} {g : Nat} {nb : Bool} {ao : Option Addr} {n ca : Nat} (h : Box w g nb ao n ca) (he : Ext w w') : Box w' g nb ao n ca := h.below he

/-- a variable that is made and holds a value -/
theorem box_made (w : World) (nb : Bool) (ao : Option Addr) (n ca : Nat) :
    ∃ W, W = w.alloc (.cells #[.bool nb, .slice ao n ca] 24) ∧ Ext w W ∧ Box W w.heap.size nb ao n ca :=
  ⟨_, rfl, (Below.refl _ w).alloc (Nat.le_refl _) _, Box.new w nb ao n ca⟩

theorem boxes_pair (w : World) (nb : Bool) (ao : Option Addr) (n ca : Nat) (mb : Bool) (bo : Option Addr) (m cb : Nat) :
    ∃ W, W = (w.alloc (.cells #[.bool nb, .slice ao n ca] 24)).alloc (.cells #[.bool mb, .slice bo m cb] 24) ∧ Ext w W ∧ Box W w.heap.size nb ao n ca ∧ Box W (w.heap.size + 1) mb bo m cb := by
  refine ⟨_, rfl, ((Below.refl _ w).alloc (Nat.le_refl _) _).alloc (by simp) _, ?_, ?_⟩
  · exact (Box.new w nb ao n ca).below ((Below.refl _ _).alloc (Nat.le_refl _) _)
  · have := Box.new (w.alloc (.cells #[.bool nb, .slice ao n ca] 24)) mb bo m cb
    simpa using this

set_option maxRecDepth 100000 in
set_option maxHeartbeats 4000000 in
theorem powers_yes (nb : Bool) (ao : Option Addr) (n ca : Nat) (xs : List Int) (i : Int) (w : World) (ha : Sl w ao n ca xs) (hn : n ≤ 40) (hT : Table w) (haw : AwakeSays w) :
    Calls Tryd.prog 8 #[.agg #[.bool nb, .slice ao n ca], .int .i64 i] w fun e w' => e = .returned (.bool true) ∧ Ext w w' := by
  go_enter Tryd.func8, Tryd.ntmps8
  go_wp2_with fail
  obtain ⟨W, hW, hB, hx⟩ := box_made w nb ao n ca
  rw [← hW]
  clear hW
  have ra := ok_raw (nb := nb) (ha.below hB) 40 hn (by omega)
  have hAW : AwakeSays W := fun w' h => haw w' (hB.trans h)
  have HT := Lib.hid (hT.below hB)
  generalize sgd nb xs = x at *
  generalize hg : w.heap.size = B at *
  have HG := Lib.hid hg; clear hg
  have hst : St W W [⟨.agg #[.bool nb, .slice ao n ca], x, 40, false⟩] :=
    ⟨Ext.refl W, fun p hp => by
      simp only [List.mem_cons, List.not_mem_nil, or_false] at hp
      subst hp; exact ra⟩
  have HB := Lib.hid hB
  clear ha ra hB haw hT
  refine (slim_yes nb ao n ca 40 _ hn).mono ?_
  rintro e w1 ⟨rfl, h1⟩
  have st1 := hst.step h1
  clear h1
  go_wp2_with fail
  refine (place_any i 500 w1 (by omega) (by omega)).mono ?_
  rintro e w2 ⟨k, hk, rfl, rfl⟩
  have hk' : k < 512 := by omega
  go_wp2_with fail
  refine (one_bag st1).mono ?_
  rintro e w2 ⟨r1, rfl, st2⟩
  clear st1
  go_wp2_with fail
  refine (shl_bag st2 (List.Mem.head _) (by omega) k hk').mono ?_
  rintro e w3 ⟨pn, po, pk, pc, rfl, hp, st3⟩
  rw [Int.one_mul] at hp st3
  clear st2
  go_upto_region 5 with fail
  obtain ⟨V, hV, hv, b1⟩ := box_made w3 pn po pk pc
  rw [← hV]
  clear hV hp
  have st4 := st3.step hv
  generalize w3.heap.size = D1 at *
  have b0 := hx.ext st4.ext
  have HV := Lib.hid st4.ext
  have stV : St V V _ := ⟨Ext.refl V, st4.bag⟩
  have d0 := b0.c0
  have d1 := b0.c1
  clear st3 hv hst st4 hx
  go_wp2_with fail
  refine (shl_bag stV (List.Mem.tail _ (List.Mem.tail _ (List.Mem.head _))) (by omega) k hk').mono ?_
  rintro e w5 ⟨xn, xo, xk, xc, rfl, hxx, st5⟩
  clear d0 d1 hxx
  go_upto_region 6 with fail
  obtain ⟨X, hX, hXe, b2⟩ := box_made w5 xn xo xk xc
  rw [← hX]
  clear hX
  have st6 := st5.step hXe
  generalize w5.heap.size = D2 at *
  have b0 := b0.ext st6.ext
  have b1 := b1.ext st6.ext
  have HX := Lib.hid (HV.out.trans st6.ext)
  have stX : St X X _ := ⟨Ext.refl X, st6.bag⟩
  have HTX := Lib.hid (HT.out.below HX.out)
  have d0 := b0.c0
  have d1 := b0.c1
  clear st5 hXe st6 stV HV
  go_wp2_with fail
  refine (shr_bag stX (by repeat (first | exact List.Mem.head _ | refine List.Mem.tail _ ?_)) (by omega) k hk' HTX.out).mono ?_
  rintro e w6 ⟨yn, yo, yk, yc, rfl, hyy, st7⟩
  clear d0 d1 hyy
  go_upto_region 7 with fail
  obtain ⟨Z, hZ, hZe, b3⟩ := box_made w6 yn yo yk yc
  rw [← hZ]
  clear hZ
  have st8 := st7.step hZe
  generalize w6.heap.size = D3 at *
  have b0 := b0.ext st8.ext
  have b1 := b1.ext st8.ext
  have b2 := b2.ext st8.ext
  have HZ := Lib.hid (HX.out.trans st8.ext)
  have stZ : St Z Z _ := ⟨Ext.refl Z, st8.bag⟩
  have d0 := b0.c0
  have d1 := b0.c1
  have d2 := b1.c0
  have d3 := b1.c1
  clear st7 hZe st8 stX HX HTX
  have hp0 : (2 : Int) ^ k ≠ 0 := by
    have : (0 : Int) < 2 ^ k := Int.pow_pos (by omega)
    omega
  have HP0 := Lib.hid hp0; clear hp0
  go_wp2_with fail
  refine (divMod_bag stZ (u := .agg #[.bool nb, .slice ao n ca]) (v := .agg #[.bool pn, .slice po pk pc]) (x := x) (y := 2 ^ k) (N := 40) (M := 1 + 16) (c := false) (d := true) (by simp) (by simp) (by omega) (by omega) HP0.out).mono ?_
  rintro e w7 ⟨qn, qo, qk, qc, rn, ro, rk, rc, rfl, hq, hr, st9⟩
  clear d0 d1 d2 d3 hq hr
  go_upto_region 8 with fail
  obtain ⟨Y, hY, hYe, b4, b5⟩ := boxes_pair w7 qn qo qk qc rn ro rk rc
  rw [← hY]
  clear hY
  have st10 := st9.step hYe
  generalize w7.heap.size = D4 at *
  have b0 := b0.ext st10.ext
  have b1 := b1.ext st10.ext
  have b2 := b2.ext st10.ext
  have b3 := b3.ext st10.ext
  have HY := Lib.hid (HZ.out.trans st10.ext)
  have stY : St Y Y _ := ⟨Ext.refl Y, st10.bag⟩
  have HTY := Lib.hid (HT.out.below HY.out)
  have hAY : AwakeSays Y := fun w' h => hAW w' (HY.out.trans h)
  clear st9 hYe st10 stZ HZ HT hAW
  have hcells : ∀ wx, Ext Y wx → ((wx.cell? ⟨B, 0, none⟩ = some (.bool nb) ∧ wx.cell? ⟨B, 1, none⟩ = some (.slice ao n ca)) ∧ (wx.cell? ⟨D1, 0, none⟩ = some (.bool pn) ∧ wx.cell? ⟨D1, 1, none⟩ = some (.slice po pk pc)) ∧
      (wx.cell? ⟨D2, 0, none⟩ = some (.bool xn) ∧ wx.cell? ⟨D2, 1, none⟩ = some (.slice xo xk xc)) ∧ (wx.cell? ⟨D3, 0, none⟩ = some (.bool yn) ∧ wx.cell? ⟨D3, 1, none⟩ = some (.slice yo yk yc)) ∧
      (wx.cell? ⟨D4, 0, none⟩ = some (.bool qn) ∧ wx.cell? ⟨D4, 1, none⟩ = some (.slice qo qk qc))) := fun wx h =>
    ⟨⟨(b0.below h).c0, (b0.below h).c1⟩, ⟨(b1.below h).c0, (b1.below h).c1⟩, ⟨(b2.below h).c0, (b2.below h).c1⟩, ⟨(b3.below h).c0, (b3.below h).c1⟩, ⟨(b4.below h).c0, (b4.below h).c1⟩⟩
  have HC := Lib.hid hcells
  clear hcells b0 b1 b2 b3 b4 b5
  obtain ⟨⟨d0, d1⟩, ⟨d2, d3⟩, ⟨d4, d5⟩, ⟨d6, d7⟩, d8, d9⟩ := HC.out Y (Ext.refl Y)
  have std := stY.drew
  go_region_held3 (fun wx => (wx.cell? ⟨B, 0, none⟩ = some (.bool nb) ∧ wx.cell? ⟨B, 1, none⟩ = some (.slice ao n ca)) ∧ (wx.cell? ⟨D1, 0, none⟩ = some (.bool pn) ∧ wx.cell? ⟨D1, 1, none⟩ = some (.slice po pk pc)) ∧
      (wx.cell? ⟨D2, 0, none⟩ = some (.bool xn) ∧ wx.cell? ⟨D2, 1, none⟩ = some (.slice xo xk xc)) ∧ (wx.cell? ⟨D3, 0, none⟩ = some (.bool yn) ∧ wx.cell? ⟨D3, 1, none⟩ = some (.slice yo yk yc)) ∧
      (wx.cell? ⟨D4, 0, none⟩ = some (.bool qn) ∧ wx.cell? ⟨D4, 1, none⟩ = some (.slice qo qk qc)))
    (first | exact HC.out _ (by exact St.ext (by assumption)))
    (first
      | (go_at_call 40; refine (mul_bag (W := Y) (by assumption) (by repeat (first | exact List.Mem.head _ | refine List.Mem.tail _ ?_)) (by repeat (first | exact List.Mem.head _ | refine List.Mem.tail _ ?_)) (by omega) (by omega) (by omega)).mono ?_; rintro e wn ⟨r, rfl, stn⟩)
      | (go_at_call 51; refine (bitLen_bag (W := Y) (by assumption) (by repeat (first | exact List.Mem.head _ | refine List.Mem.tail _ ?_)) _ (by first | exact HBX.out | exact HBA.out)).mono ?_; rintro e wn ⟨rfl, stn⟩)
      | (go_at_call 52; refine (tz_bag (W := Y) (by assumption) (by repeat (first | exact List.Mem.head _ | refine List.Mem.tail _ ?_)) _ _ (by first | exact HZX.out | exact HZA.out) HTY.out).mono ?_; rintro e wn ⟨rfl, stn⟩)
      | (go_at_call 19; refine (hAY _ (by exact St.ext (by assumption))).mono ?_; rintro e wn ⟨rfl, hwn⟩; have stn := St.step (W := Y) (by assumption) hwn)
      | (go_at_call 23; refine (big_bag (W := Y) (by assumption) (by repeat (first | exact List.Mem.head _ | refine List.Mem.tail _ ?_)) (by repeat (first | exact List.Mem.head _ | refine List.Mem.tail _ ?_)) rfl).mono ?_; rintro e wn ⟨rfl, stn⟩))
  clear std stY d0 d1 d2 d3 d4 d5 d6 d7 d8 d9
  obtain ⟨⟨d0, d1⟩, ⟨d2, d3⟩, ⟨d4, d5⟩, ⟨d6, d7⟩, d8, d9⟩ := HC.out _ stn.ext
  go_wp2_with fail
  by_cases hx0 : x = 0
  · subst hx0
    refine (sign_bag stn (u := .agg #[.bool nb, .slice ao n ca]) (x := 0) (N := 40) (c := false) (by simp) 0 (by decide)).mono ?_
    rintro e w8 ⟨rfl, st11⟩
    clear d0 d1 d2 d3 d4 d5 d6 d7 d8 d9 stn
    obtain ⟨⟨d0, d1⟩, ⟨d2, d3⟩, ⟨d4, d5⟩, ⟨d6, d7⟩, d8, d9⟩ := HC.out _ st11.ext
    have hbl : (blen ((0 : Int) * 2 ^ k).natAbs : Int) = 0 := by rw [Int.zero_mul]; rfl
    have htz : IsTz ((0 : Int) * 2 ^ k).natAbs 0 := by rw [Int.zero_mul]; exact Or.inl ⟨rfl, rfl⟩
    have HBL := Lib.hid hbl; clear hbl
    have HTZ := Lib.hid htz; clear htz
    go_wp2_with fail
    refine (bitLen_bag st11 (u := .agg #[.bool xn, .slice xo xk xc]) (x := 0 * 2 ^ k) (N := 40 + 16) (c := true) (by simp) 0 HBL.out).mono ?_
    rintro e w9 ⟨rfl, st12⟩
    clear d0 d1 d2 d3 d4 d5 d6 d7 d8 d9 st11
    obtain ⟨⟨d0, d1⟩, ⟨d2, d3⟩, ⟨d4, d5⟩, ⟨d6, d7⟩, d8, d9⟩ := HC.out _ st12.ext
    go_wp2_with fail
    refine (tz_bag st12 (u := .agg #[.bool xn, .slice xo xk xc]) (x := 0 * 2 ^ k) (N := 40 + 16) (c := true) (by simp) 0 0 ⟨HTZ.out, rfl⟩ HTY.out).mono ?_
    rintro e w10 ⟨rfl, st13⟩
    clear d0 d1 d2 d3 d4 d5 d6 d7 d8 d9 st12
    go_wp2_with fail
    refine (hAY _ st13.ext).mono ?_
    rintro e w11 ⟨rfl, h14⟩
    go_wp2
    go_ret
    exact ⟨rfl, (HB.out.trans HY.out).trans (st13.ext.trans h14)⟩
  · obtain ⟨t, ht⟩ := isTz_exists x.natAbs
    have ht2 := ht.mul (by omega) k
    rw [← natAbs_mul_pow] at ht2
    have hb2 := blen_mul (a := x.natAbs) (by omega) k
    rw [← natAbs_mul_pow] at hb2
    obtain ⟨l, hl⟩ : ∃ l, blen x.natAbs = l := ⟨_, rfl⟩
    rw [hl] at hb2
    have hbx : (blen (x * 2 ^ k).natAbs : Int) = l + k := by rw [hb2]; push_cast; rfl
    have hba : (blen x.natAbs : Int) = l := by rw [hl]
    obtain ⟨_, _, _, _, _, _, _, a4, _⟩ := stn.bag ⟨.agg #[.bool nb, .slice ao n ca], x, 40, false⟩ (by simp)
    have hl2 : (l : Int) ≤ 1280 := by have h : blen x.natAbs ≤ 32 * 40 := blen_le a4; omega
    have htl : (t : Int) ≤ 1280 := by have h : t ≤ 32 * 40 := tz_le ht (by omega) a4; omega
    clear a4
    have hki : (k : Int) < 500 := by omega
    have hl0 : (0 : Int) ≤ l := by omega
    have ht0 : (0 : Int) ≤ t := by omega
    have hk0 : (0 : Int) ≤ k := by omega
    have HBX := Lib.hid hbx
    have HBA := Lib.hid hba
    have HZX : Hid (IsTz (x * 2 ^ k).natAbs (t + k) ∧ ((t + k : Nat) : Int) = t + k) := Lib.hid ⟨ht2, by push_cast; rfl⟩
    have HZA : Hid (IsTz x.natAbs t ∧ (t : Int) = t) := Lib.hid ⟨ht, rfl⟩
    clear hbx hba hb2 hl ht ht2
    obtain ⟨s, hs⟩ : ∃ s, sgn3 x 0 = s := ⟨_, rfl⟩
    have hs0 : (s == 0) = false := beq_eq_false_iff_ne.2 (fun e => hx0 (sgn3_zero (hs.trans e)))
    clear hx0
    refine (sign_bag stn (u := .agg #[.bool nb, .slice ao n ca]) (x := x) (N := 40) (c := false) (by simp) s hs).mono ?_
    clear hs
    rintro e w8 ⟨rfl, st11⟩
    clear d0 d1 d2 d3 d4 d5 d6 d7 d8 d9 stn
    obtain ⟨⟨d0, d1⟩, ⟨d2, d3⟩, ⟨d4, d5⟩, ⟨d6, d7⟩, d8, d9⟩ := HC.out _ st11.ext
    go_upto_region 12 with fail
    have std := st11.drew
    obtain ⟨hw1, hw2⟩ : IntKind.i64.wrap ((l : Int) + k) = l + k ∧ IntKind.i64.wrap ((t : Int) + k) = t + k := ⟨by rw [IntKind.wrap_i64]; omega, by rw [IntKind.wrap_i64]; omega⟩
    clear hk hk' hl2 htl hki hl0 ht0 hk0
    have hzx : ∃ q : Nat, IsTz (x * 2 ^ k).natAbs q ∧ (q : Int) = t + k := ⟨t + k, HZX.out.1, by push_cast; rfl⟩
    have hza : ∃ q : Nat, IsTz x.natAbs q ∧ (q : Int) = t := ⟨t, HZA.out.1, rfl⟩
    clear HZX HZA
    generalize hkI : (k : Int) = kI at *
    generalize hlI : (l : Int) = lI at *
    generalize htI : (t : Int) = tI at *
    clear hkI hlI htI
    obtain ⟨q1, hz1⟩ := hzx
    obtain ⟨q2, hz2⟩ := hza
    have HZX := Lib.hid hz1
    have HZA := Lib.hid hz2
    clear hz1 hz2
    go_region_held3 (fun wx => (wx.cell? ⟨B, 0, none⟩ = some (.bool nb) ∧ wx.cell? ⟨B, 1, none⟩ = some (.slice ao n ca)) ∧ (wx.cell? ⟨D2, 0, none⟩ = some (.bool xn) ∧ wx.cell? ⟨D2, 1, none⟩ = some (.slice xo xk xc)))
      (first | exact ⟨(HC.out _ (by exact St.ext (by assumption))).1, (HC.out _ (by exact St.ext (by assumption))).2.2.1⟩)
    (first
      | (go_at_call 40; refine (mul_bag (W := Y) (by assumption) (by repeat (first | exact List.Mem.head _ | refine List.Mem.tail _ ?_)) (by repeat (first | exact List.Mem.head _ | refine List.Mem.tail _ ?_)) (by omega) (by omega) (by omega)).mono ?_; rintro e wn ⟨r, rfl, stn⟩)
      | (go_at_call 51; refine (bitLen_bag (W := Y) (by assumption) (by repeat (first | exact List.Mem.head _ | refine List.Mem.tail _ ?_)) _ (by first | exact HBX.out | exact HBA.out)).mono ?_; rintro e wn ⟨rfl, stn⟩)
      | (go_at_call 52; refine (tz_bag (W := Y) (by assumption) (by repeat (first | exact List.Mem.head _ | refine List.Mem.tail _ ?_)) _ _ (by first | exact HZX.out | exact HZA.out) HTY.out).mono ?_; rintro e wn ⟨rfl, stn⟩)
      | (go_at_call 19; refine (hAY _ (by exact St.ext (by assumption))).mono ?_; rintro e wn ⟨rfl, hwn⟩; have stn := St.step (W := Y) (by assumption) hwn)
      | (go_at_call 23; refine (big_bag (W := Y) (by assumption) (by repeat (first | exact List.Mem.head _ | refine List.Mem.tail _ ?_)) (by repeat (first | exact List.Mem.head _ | refine List.Mem.tail _ ?_)) rfl).mono ?_; rintro e wn ⟨rfl, stn⟩))
    go_wp2
    go_ret
    refine ⟨rfl, ?_⟩
    have h := stn.ext
    exact (HB.out.trans HY.out).trans h

set_option maxRecDepth 100000 in
set_option maxHeartbeats 4000000 in
theorem powers_no (nb : Bool) (ao : Option Addr) (n ca : Nat) (i : Int) (w : World) (hn : ¬ n ≤ 40) (haw : AwakeSays w) :
    Calls Tryd.prog 8 #[.agg #[.bool nb, .slice ao n ca], .int .i64 i] w fun e w' => e = .returned (.bool true) ∧ Ext w w' := by
  go_enter Tryd.func8, Tryd.ntmps8
  go_wp2_with fail
  obtain ⟨W, hW, hB, hx⟩ := box_made w nb ao n ca
  rw [← hW]
  clear hW
  have hAW : AwakeSays W := fun w' h => haw w' (hB.trans h)
  have HB := Lib.hid hB
  clear hB haw hx
  refine (slim_no nb ao n ca 40 _ hn).mono ?_
  rintro e w1 ⟨rfl, h1⟩
  go_wp2_with fail
  refine (hAW _ h1).mono ?_
  rintro e w4 ⟨rfl, h4⟩
  go_wp2
  go_ret
  exact ⟨rfl, HB.out.trans (h1.trans h4)⟩
end Go.Proofs.YtpmbmemfoljfpaaDoor
