/- What dyad.isPrec, isOdd, withTail and rounded do. -/
import Derived.Test.YtjohpdobnedilaaGreatDoorGl
import Derived.Deep.CutBlock
namespace Go.Proofs.YtjohpdobnedilaaGreatDoor
open Go.RowKit

set_option maxRecDepth 100000 in
set_option maxHeartbeats 1000000 in
theorem isPrec_any (p : Int) (w : World) :
    Calls Tryz.prog 98 #[.int .i64 p] w fun e w' => e = .returned (.bool (decide (1 ≤ p ∧ p ≤ 4096))) ∧ w = w' := by
  by_cases h1 : 1 ≤ p
  · by_cases h2 : p ≤ 4096
    · have hd : decide (1 ≤ p ∧ p ≤ 4096) = true := by simp [h1, h2]
      rw [hd]
      clear hd
      go_enter Tryz.func98, Tryz.ntmps98
      go_wp2
      go_ret
      exact ⟨rfl, rfl⟩
    · have hd : decide (1 ≤ p ∧ p ≤ 4096) = false := by simp [h2]
      rw [hd]
      clear hd
      go_enter Tryz.func98, Tryz.ntmps98
      go_wp2
      go_ret
      exact ⟨rfl, rfl⟩
  · have hd : decide (1 ≤ p ∧ p ≤ 4096) = false := by simp [h1]
    rw [hd]
    clear hd
    go_enter Tryz.func98, Tryz.ntmps98
    go_wp2
    go_ret
    exact ⟨rfl, rfl⟩

theorem and_one {z : Int} (h0 : 0 ≤ z) (h1 : z < 4294967296) : bits BinOp.and IntKind.u32 z 1 = z % 2 := by
  obtain ⟨k, rfl⟩ : ∃ k : Nat, z = (k : Int) := ⟨z.toNat, by omega⟩
  have h1 : (BitVec.ofInt 32 (k : Int)).toNat = k := by
    rw [BitVec.ofInt_natCast, BitVec.toNat_ofNat]; exact Nat.mod_eq_of_lt (by omega)
  show IntKind.u32.wrap ((BitVec.ofInt 32 (k : Int) &&& BitVec.ofInt 32 1).toNat : Int) = _
  rw [BitVec.toNat_and, h1, show (BitVec.ofInt 32 1).toNat = 1 from rfl, Nat.and_one_is_mod]
  simp only [IntKind.wrap, IntKind.bits, IntKind.signed, Bool.false_and, Bool.false_eq_true, if_false]
  omega

set_option maxRecDepth 100000 in
set_option maxHeartbeats 1000000 in
theorem isOdd_any (nb : Bool) (ao : Option Addr) (n ca : Nat) (x : Int) (w : World) (h : Bg w nb ao n ca x) :
    Calls Tryz.prog 161 #[.agg #[.bool nb, .slice ao n ca]] w fun e w' => e = .returned (.bool (decide (x.natAbs % 2 = 1))) ∧ Ext w w' := by
  obtain ⟨⟨zs, hs, hx⟩, hsm⟩ := h
  have hpar : x.natAbs % 2 = (zs.getD 0 0 % 2).toNat := by
    rw [hx, sgd_natAbs hs.wf]
    have hw := hs.wf
    cases zs with
    | nil => simp [num]
    | cons z zs =>
      have := hw.head
      have := num_nonneg hw.tail
      simp only [num, List.getD_cons_zero]
      omega
  have HP := Lib.hid hpar; clear hpar hx
  have hlen := hs.len
  have HLEN := Lib.hid hlen; clear hlen
  go_enter Tryz.func161, Tryz.ntmps161
  go_upto_region 1 with fail
  obtain ⟨W, hW, hB, hbx, hz⟩ := box_new w nb ao n ca
  rw [← hW]
  clear hW
  have hs := hs.below hB
  have HB := Lib.hid (show Ext w W from hB)
  clear hB
  generalize w.heap.size = B at *
  have k0 := hbx.c0
  have k1 := hbx.c1
  by_cases h0 : n = 0
  · subst h0
    have hz0 : zs = [] := List.eq_nil_of_length_eq_zero HLEN.out
    have hev : decide (x.natAbs % 2 = 1) = false := by rw [HP.out, hz0]; rfl
    have HEV := Lib.hid hev; clear hev hz0
    go_wp2
    go_ret
    exact ⟨by rw [HEV.out]; rfl, HB.out⟩
  · obtain ⟨bb, ob, rfl, hcb⟩ := hs.cells (by rw [HLEN.out]; omega)
    have hc0 := hcb 0 (by rw [HLEN.out]; omega)
    have hr := hs.wf.getD 0
    obtain ⟨z, hzz⟩ : ∃ z, zs.getD 0 0 = z := ⟨_, rfl⟩
    rw [hzz, Nat.add_zero] at hc0
    rw [hzz] at hr
    rw [hzz] at HP
    have hand := and_one hr.1 hr.2
    have hn0 : 0 < n := by omega
    have hcap := hs.cap
    have HAND := Lib.hid hand
    have HZ := Lib.hid hzz; clear hzz hcb
    have hd : decide (x.natAbs % 2 = 1) = (z % 2 == 1) := by
      rw [HP.out]
      rw [Bool.eq_iff_iff]
      simp
      omega
    have HD := Lib.hid hd; clear hd
    clear h0
    go_wp2
    go_ret
    refine ⟨?_, HB.out⟩
    rw [HD.out]
    rfl

theorem blen_two (x : Int) : blen (x * 2).natAbs ≤ blen x.natAbs + 2 := by
  have h1 := blen_mul_le x 2
  have h2 : blen (2 : Int).natAbs = 2 := by decide
  omega

theorem shift_one (nb : Bool) (ao : Option Addr) (n cap : Nat) (x : Int) (w : World) (h : Bg w nb ao n cap x) :
    Calls Tryz.prog 46 #[.agg #[.bool nb, .slice ao n cap], .int .i64 1] w fun e w' => ∃ nr ro l cr, e = .returned (.tuple #[.agg #[.bool nr, .slice ro l cr], .int .i64 0]) ∧ Bn w' nr ro l cr (x * 2) ∧ Below w.heap.size w w' := by
  have := shift_left nb ao n cap x 1 w h (by omega)
  simpa using this
theorem shift_m1 (nb : Bool) (ao : Option Addr) (n cap : Nat) (x : Int) (w : World) (h : Bg w nb ao n cap x) (hT : Table w) :
    Calls Tryz.prog 46 #[.agg #[.bool nb, .slice ao n cap], .int .i64 (-1)] w fun e w' => ∃ nr ro l cr, e = .returned (.tuple #[.agg #[.bool nr, .slice ro l cr], .int .i64 0]) ∧ Bn w' nr ro l cr (x / 2) ∧ Below w.heap.size w w' := by
  have := shift_right nb ao n cap x 1 w h (by omega) (by omega) hT
  simpa using this
theorem one_any (w : World) :
    Calls Tryz.prog 79 #[.int .i64 1] w fun e w' => ∃ nr ro k cr, e = .returned (.agg #[.bool nr, .slice ro k cr]) ∧ Bg w' nr ro k cr 1 ∧ Ext w w' :=
  (fromInt_any 1 w (by omega) (by omega)).mono fun e w' ⟨nr, ro, k, cr, he, hr, hw⟩ => ⟨nr, ro, k, cr, he, bn_bg_of hr (by decide), hw⟩
theorem Box.ext' {w w' : World} {g : Nat} {nb : Bool} {ao : Option Addr} {n ca : Nat} (h : Box w g nb ao n ca) (he : Ext w w') : Box w' g nb ao n ca := h.below he
theorem Bg.ext {w w' : World} {nb : Bool} {ao : Option Addr} {n ca : Nat} {x : Int} (h : Bg w nb ao n ca x) (he : Ext w w') : Bg w' nb ao n ca x := h.below he

/-- the result is the normalized integer x -/
def BigOut (x : Int) (e : Ending) (w' : World) : Prop := ∃ nr ro k cr, e = .returned (.agg #[.bool nr, .slice ro k cr]) ∧ Bn w' nr ro k cr x

set_option maxRecDepth 100000 in
set_option maxHeartbeats 4000000 in
theorem withTail_any (nb : Bool) (ao : Option Addr) (n ca : Nat) (x : Int) (b : Bool) (w : World) (h : Bg w nb ao n ca x) (hbl : blen x.natAbs ≤ 900000) :
    Calls Tryz.prog 106 #[.agg #[.bool nb, .slice ao n ca], .bool b] w fun e w' => BigOut (2 * x + if b then 1 else 0) e w' ∧ Ext w w' := by
  go_enter Tryz.func106, Tryz.ntmps106
  go_upto_region 1 with fail
  obtain ⟨W, hW, hB, hbx, hrx, hz⟩ := boxes1 w nb ao n ca
  rw [← hW]
  clear hW
  have h := h.below hB
  generalize hBe : w.heap.size = B at *
  have HBe := Lib.hid hBe; clear hBe
  have k0 := hbx.c0
  have k1 := hbx.c1
  go_wp2_with fail
  refine (shift_one _ _ _ _ _ _ h).mono ?_
  rintro e w1 ⟨nr, ro, l, cr, rfl, hr, hw1⟩
  have b2 := blen_two x
  have c1 := hrx.below hw1
  obtain ⟨hB1, hB1'⟩ := bnext hB (by omega) hw1
  have hz1 := hw1.size
  clear k0 k1 hbx hrx hB hw1 h
  go_upto_region 2 with fail
  obtain ⟨V, hV, hv, e1, hz2⟩ := box_new w1 nr ro l cr
  rw [← hV]
  clear hV
  have c1 := c1.below hv
  have hr := hr.below hv
  obtain ⟨hB2, hB2'⟩ := bnext hB1 hB1' hv
  generalize w1.heap.size = D at *
  have k0 := e1.c0
  have k1 := e1.c1
  have q0 := c1.c0
  have q1 := c1.c1
  have f0 := c1.f 0
  have f1 := c1.f 1
  cases b with
  | false =>
    have z3 := c1.stored nr ro l cr
    have z0 := z3.c0
    have z1 := z3.c1
    have hfin := hr.only_box c1 (only_set2 _ _ (.bool nr) (.slice ro l cr))
    have hbl := hB2.trans ((only_set2 V (B + 1) (.bool nr) (.slice ro l cr)).below (B := B) (by omega))
    have HF := Lib.hid hfin; clear hfin
    have HL := Lib.hid hbl; clear hbl z3
    go_wp2
    refine bodyPost_ret (v := .agg #[.bool nr, .slice ro l cr]) (by simp [results, Tryz.results106, go_sem, z0, z1]) rfl ⟨⟨_, _, _, _, rfl, ?_⟩, ?_⟩
    · have := HF.out; rw [Int.mul_comm] at this; simpa using this
    · show Below _ _ _; rw [HBe.out]; exact HL.out
  | true =>
    have gr := bn_bg_of hr (by omega)
    have hc : ∀ wx, Ext V wx → wx.cell? ⟨D, 0, none⟩ = some (.bool nr) ∧ wx.cell? ⟨D, 1, none⟩ = some (.slice ro l cr) := fun wx h => ⟨(e1.ext' h).c0, (e1.ext' h).c1⟩
    have HC := Lib.hid hc; clear hc
    have ex0 : Ext V V.drew := (Below.refl _ _).drew
    go_upto_region 3 with fail
    go_region_held3 (fun wx => wx.cell? ⟨D, 0, none⟩ = some (.bool nr) ∧ wx.cell? ⟨D, 1, none⟩ = some (.slice ro l cr))
      (first | exact HC.out _ (by assumption) | (refine ⟨?_, ?_⟩ <;> go_simp))
      (first
        | (go_at_call 79; refine (one_any _).mono ?_; rintro e w2 ⟨on, oo, ok, oc, rfl, ho, hw2⟩; have ex1 : Ext V w2 := ex0.trans hw2)
        | (go_at_call 138; refine (add_any _ _ _ _ _ _ _ _ _ _ _ (by exact gr.ext ex1) (by exact ho)).mono ?_; rintro e w3 ⟨sn, so, sk, sc', rfl, hs, hw3⟩; have ex2 : Ext V w3 := ex1.trans hw3; have c2 := c1.ext' ex2; have q0 := c2.c0; have q1 := c2.c1; have f0 := c2.f 0; have f1 := c2.f 1))
    have z3 := c2.stored sn so sk sc'
    have z0 := z3.c0
    have z1 := z3.c1
    have hfin := hs.only_box c2 (only_set2 _ _ (.bool sn) (.slice so sk sc'))
    have hbl := (bnext hB2 hB2' ex2).1.trans ((only_set2 w3 (B + 1) (.bool sn) (.slice so sk sc')).below (B := B) (by omega))
    have HF := Lib.hid hfin; clear hfin
    have HL := Lib.hid hbl; clear hbl z3
    go_wp2
    refine bodyPost_ret (v := .agg #[.bool sn, .slice so sk sc']) (by simp [results, Tryz.results106, go_sem, z0, z1]) rfl ⟨⟨_, _, _, _, rfl, ?_⟩, ?_⟩
    · have := HF.out; rw [Int.mul_comm] at this; simpa using this
    · show Below _ _ _; rw [HBe.out]; exact HL.out
end Go.Proofs.YtjohpdobnedilaaGreatDoor

/- What dyad.rounded and Round do. -/
namespace Go.Proofs.YtjohpdobnedilaaGreatDoor
open Go.RowKit

/-- is the multiple above taken -/
def rup (x : Int) (k : Nat) (mode : Int) : Bool :=
  if mode = 1 then false else if mode = 2 then true else if mode = 3 then decide (x < 0) else
  decide ((x / 2 ^ k).natAbs % 2 = 1) && (!decide (tzf x.natAbs = k) || decide ((x / 2 ^ k / 2).natAbs % 2 = 1))

/-- x times 2^e rounded to p bits -/
def drd (x e : Int) (p : Nat) (mode : Int) : Dy :=
  if blen x.natAbs ≤ p + tzf x.natAbs then dmk x e
  else dmk (x / 2 ^ (blen x.natAbs - p - 1) / 2 + if rup x (blen x.natAbs - p - 1) mode then 1 else 0) (e + ((blen x.natAbs - p - 1 : Nat) + 1))

theorem boxes_bd2 (w : World) (nb : Bool) (ao : Option Addr) (n cap : Nat) :
    ∃ W, W = (w.alloc (.cells #[.bool nb, .slice ao n cap] 37)).alloc (.cells #[.bool false, .bool false, .slice none 0 0, .int .i64 0] 39) ∧ Below w.heap.size w W ∧ Box W w.heap.size nb ao n cap ∧ DBox W (w.heap.size + 1) false false none 0 0 0 ∧ w.heap.size + 2 ≤ W.heap.size := boxes_bd w nb ao n cap

set_option maxRecDepth 100000 in
set_option maxHeartbeats 4000000 in
theorem rounded_any (nb : Bool) (ao : Option Addr) (n ca : Nat) (x e0 : Int) (p : Nat) (mode : Int) (w : World) (h : Bg w nb ao n ca x) (hbl : blen x.natAbs ≤ 900000) (he0 : -1000000000 ≤ e0) (he1 : e0 ≤ 1000000000) (hp : p ≤ 4096) (hp1 : 1 ≤ p) (hT : Table w) :
    Calls Tryz.prog 100 #[.agg #[.bool nb, .slice ao n ca], .int .i64 e0, .int .i64 p, .int .i64 mode] w fun e w' => ∃ v, e = .returned v ∧ Dn w' v (drd x e0 p mode) ∧ Ext w w' := by
  have HTw := Lib.hid hT
  have hneg : x ≠ 0 → nb = decide (x < 0) := by
    obtain ⟨⟨zs, hs, hx⟩, _⟩ := h
    intro h0
    have := num_nonneg hs.wf
    unfold sgd at hx
    cases nb <;> simp at hx <;> simp <;> omega
  have HNEG := Lib.hid hneg; clear hneg
  go_enter Tryz.func100, Tryz.ntmps100
  go_upto_region 1 with fail
  obtain ⟨W, hW, hB, hbx, hrx, hz⟩ := boxes_bd w nb ao n ca
  rw [← hW]
  clear hW
  have h := h.below hB
  have hT := hT.below hB
  generalize hBe : w.heap.size = B at *
  have HBe := Lib.hid hBe; clear hBe
  have k0 := hbx.c0
  have k1 := hbx.c1
  go_wp2_with fail
  refine (bitLenOut_any _ _ _ _ _ _ h).mono ?_
  rintro e w1 ⟨rfl, hw1⟩
  have h := h.below hw1
  have bx := hbx.below hw1
  have c1 := hrx.below hw1
  have HT := Lib.hid (hT.below hw1)
  obtain ⟨hB1, hB1'⟩ := bnext hB (by omega) hw1
  have hz1 := hw1.size
  clear k0 k1 hbx hrx hB hw1 hT
  have k0 := bx.c0
  have k1 := bx.c1
  generalize hbb : blen x.natAbs = bl at *
  have HBB := Lib.hid hbb; clear hbb
  go_wp2_with fail
  refine (trailingZerosOut_any _ _ _ _ _ _ h HT.out).mono ?_
  rintro e w2 ⟨t, rfl, ht, hw2⟩
  have htt := tzf_of ht
  have h := h.below hw2
  have bx := bx.below hw2
  have c1 := c1.below hw2
  have HT := Lib.hid (HT.out.below hw2)
  obtain ⟨hB2, hB2'⟩ := bnext hB1 (by omega) hw2
  have hz2 := hw2.size
  clear k0 k1 hB1 hw2 ht
  have k0 := bx.c0
  have k1 := bx.c1
  have htl : x ≠ 0 → t < bl := fun h0 => by
    have := tzf_lt (a := x.natAbs) (by omega)
    rw [← htt, HBB.out] at this
    exact this
  have hx0 : x = 0 → bl = 0 ∧ t = 0 := fun h0 => by
    rw [htt, ← HBB.out, h0]; simp [blen, tzf_zero]
  have hdrd : drd x e0 p mode = if bl ≤ p + t then dmk x e0 else dmk (x / 2 ^ (bl - p - 1) / 2 + if rup x (bl - p - 1) mode then 1 else 0) (e0 + ((bl - p - 1 : Nat) + 1)) := by
    unfold drd; rw [HBB.out, ← htt]
  have HTT := Lib.hid htt; clear htt
  have htb : t ≤ bl := by
    by_cases h0 : x = 0
    · have := hx0 h0; omega
    · have := htl h0; omega
  have hxne : ¬ (bl : Int) - p ≤ t → x ≠ 0 := fun h1 h0 => by have := hx0 h0; omega
  have HXN := Lib.hid hxne; clear hxne htl hx0
  by_cases hle : (bl : Int) - p ≤ t
  · rw [if_pos (by omega)] at hdrd
    have HD := Lib.hid hdrd; clear hdrd
    go_wp2_with fail
    refine (dmake_any _ _ _ _ _ _ _ h (by omega) (by omega) HT.out).mono ?_
    rintro e w3 ⟨r, rfl, hr, hw3⟩
    have c1 := c1.below hw3
    obtain ⟨hB3, hB3'⟩ := bnext hB2 (by omega) hw3
    obtain ⟨rb, rn, ro2, rk, rc, re, rfl⟩ := hr.parts
    have q0 := c1.c0
    have q1 := c1.c1
    have q2 := c1.c2
    have q3 := c1.c3
    have f0 := c1.f 0
    have f1 := c1.f 1
    have f2 := c1.f 2
    have f3 := c1.f 3
    have hres := dn_stored c1 hr w hB3 (by omega)
    have z3 := c1.stored rb rn ro2 rk rc re
    have z0 := z3.c0
    have z1 := z3.c1
    have z2 := z3.c2
    have z4 := z3.c3
    have HRES := Lib.hid hres; clear hres z3
    go_wp2
    refine bodyPost_ret (v := .agg #[.bool rb, .bool rn, .slice ro2 rk rc, .int .i64 re]) (by simp [results, Tryz.results100, go_sem, z0, z1, z2, z4]) rfl ⟨_, rfl, ?_, ?_⟩
    · rw [HD.out]; exact HRES.out.1
    · show Below _ _ _; rw [HBe.out]; exact HRES.out.2
  · rw [if_neg (by omega)] at hdrd
    have hx0 := HXN.out hle
    have hnb := HNEG.out hx0
    obtain ⟨k, hk⟩ : ∃ k : Nat, bl - p - 1 = k := ⟨_, rfl⟩
    have hkb : k ≤ bl := by omega
    have hk1 : 1 - ((bl : Int) - p) = -(k : Int) := by omega
    have hk2 : ((bl : Int) - p) - 1 = (k : Int) := by omega
    have hk3 : (bl : Int) - p = (k : Int) + 1 := by omega
    rw [hk] at hdrd
    have HD := Lib.hid hdrd; clear hdrd
    have HX0 := Lib.hid hx0; clear hx0
    have HNB := Lib.hid hnb; clear hnb
    have HK := Lib.hid hk; clear hk
    have HK2 := Lib.hid hk2; clear hk2
    have HK3 := Lib.hid hk3; clear hk3
    go_wp2_with fail
    refine (shift_down0 _ _ _ _ _ _ _ h (by omega) HT.out).mono ?_
    rintro e w3 ⟨hn, ho, hl, hc, rfl, hh, hw3⟩
    have bx := bx.below hw3
    have c1 := c1.below hw3
    have HT := Lib.hid (HT.out.below hw3)
    obtain ⟨hB3, hB3'⟩ := bnext hB2 (by omega) hw3
    have hz3 := hw3.size
    clear k0 k1 hB2 hw3 h hk1
    go_upto_region 6 with fail
    obtain ⟨V, hV, hv, e1, hz4⟩ := box_new w3 hn ho hl hc
    rw [← hV]
    clear hV
    have bx := bx.below hv
    have c1 := c1.below hv
    have hh := hh.below hv
    have HT := Lib.hid (HT.out.below hv)
    obtain ⟨hB4, hB4'⟩ := bnext hB3 hB3' hv
    have hD1 : B + 2 ≤ w3.heap.size := by omega
    clear hB3 hv
    generalize w3.heap.size = D1 at *
    have hbh : blen (x / 2 ^ k).natAbs ≤ 900000 := Nat.le_trans (blen_le_of_lt (Nat.lt_of_le_of_lt (Int.natAbs_ediv_le_natAbs x (2 ^ k)) (blen_lt _))) (by rw [HBB.out]; exact hbl)
    have gh := bn_bg_of hh (by omega)
    clear hh
    generalize hhv : x / 2 ^ k = H at *
    have HHV := Lib.hid hhv; clear hhv
    have k0 := e1.c0
    have k1 := e1.c1
    go_wp2_with fail
    refine (shift_m1 _ _ _ _ _ _ gh HT.out).mono ?_
    rintro e w5 ⟨fn, fo, fl, fc, rfl, hf, hw5⟩
    have bx := bx.below hw5
    have c1 := c1.below hw5
    have e1 := e1.below hw5
    have gh := gh.below hw5
    have HT := Lib.hid (HT.out.below hw5)
    obtain ⟨hB5, hB5'⟩ := bnext hB4 hB4' hw5
    have hz5 := hw5.size
    clear k0 k1 hB4 hw5
    go_upto_region 7 with fail
    obtain ⟨V2, hV, hv, e2, hz6⟩ := box_new w5 fn fo fl fc
    rw [← hV]
    clear hV
    have bx := bx.below hv
    have c1 := c1.below hv
    have e1 := e1.below hv
    have gh := gh.below hv
    have hf := hf.below hv
    have HT := Lib.hid (HT.out.below hv)
    obtain ⟨hB6, hB6'⟩ := bnext hB5 hB5' hv
    have hD2 : D1 + 1 ≤ w5.heap.size := by omega
    clear hB5 hv
    generalize w5.heap.size = D2 at *
    have hbf : blen (H / 2).natAbs ≤ 900000 := Nat.le_trans (blen_le_of_lt (Nat.lt_of_le_of_lt (Int.natAbs_ediv_le_natAbs H 2) (blen_lt _))) hbh
    have gf := bn_bg_of hf (by omega)
    clear hf
    generalize hfv : H / 2 = F at *
    have HFV := Lib.hid hfv; clear hfv
    have hcells : ∀ wx, Ext V2 wx → (wx.cell? ⟨B, 0, none⟩ = some (.bool nb)) ∧ (wx.cell? ⟨D1, 0, none⟩ = some (.bool hn) ∧ wx.cell? ⟨D1, 1, none⟩ = some (.slice ho hl hc)) ∧ (wx.cell? ⟨D2, 0, none⟩ = some (.bool fn) ∧ wx.cell? ⟨D2, 1, none⟩ = some (.slice fo fl fc)) := fun wx h =>
      ⟨(bx.ext' h).c0, ⟨(e1.ext' h).c0, (e1.ext' h).c1⟩, (e2.ext' h).c0, (e2.ext' h).c1⟩
    have HC := Lib.hid hcells; clear hcells
    obtain ⟨k0, ⟨l0, l1⟩, m0, m1⟩ := HC.out V2 (Ext.refl _)
    go_upto_block 0 with fail
    go_cut [15] from 16 (fun b wx => b = .bool (rup x k mode) ∧ Ext V2 wx)
    case first =>
      have h1b : rup x k mode = if mode = 1 then false else if mode = 2 then true else if mode = 3 then nb else (decide (H.natAbs % 2 = 1) && (!decide (t = k) || decide (F.natAbs % 2 = 1))) := by
        unfold rup; rw [HHV.out, HFV.out, ← HTT.out, ← HNB.out]
      by_cases m1' : mode = 1
      · rw [if_pos m1'] at h1b
        have H1 := Lib.hid h1b; clear h1b
        subst m1'
        go_wp2
        go_meet
        exact ⟨by rw [H1.out], Ext.refl _⟩
      · rw [if_neg m1'] at h1b
        have n1 : (mode == 1) = false := by simpa using m1'
        clear m1'
        by_cases m2' : mode = 2
        · rw [if_pos m2'] at h1b
          have H1 := Lib.hid h1b; clear h1b
          subst m2'
          clear n1
          go_wp2
          go_meet
          exact ⟨by rw [H1.out], Ext.refl _⟩
        · rw [if_neg m2'] at h1b
          have n2 : (mode == 2) = false := by simpa using m2'
          clear m2'
          by_cases m3' : mode = 3
          · rw [if_pos m3'] at h1b
            have H1 := Lib.hid h1b; clear h1b
            subst m3'
            clear n1 n2
            go_wp2
            go_meet
            exact ⟨by rw [H1.out], Ext.refl _⟩
          · rw [if_neg m3'] at h1b
            have n3 : (mode == 3) = false := by simpa using m3'
            clear m3'
            obtain ⟨b1, hb1⟩ : ∃ b1, decide (H.natAbs % 2 = 1) = b1 := ⟨_, rfl⟩
            obtain ⟨b2, hb2⟩ : ∃ b2, decide (t = k) = b2 := ⟨_, rfl⟩
            obtain ⟨b3, hb3⟩ : ∃ b3, decide (F.natAbs % 2 = 1) = b3 := ⟨_, rfl⟩
            rw [hb1, hb2, hb3] at h1b
            have htie : ((t : Int) == ((bl : Int) - p) - 1) = b2 := by
              rw [HK2.out, ← hb2, Bool.eq_iff_iff]; simp; omega
            have H1 := Lib.hid h1b; clear h1b
            have HB1 := Lib.hid hb1; clear hb1
            have HB3 := Lib.hid hb3; clear hb3
            clear hb2
            go_wp2_with fail
            refine (isOdd_any _ _ _ _ _ _ gh).mono ?_
            rintro e w7 ⟨rfl, hw7⟩
            rw [HB1.out]
            obtain ⟨k0, ⟨l0, l1⟩, m0, m1⟩ := HC.out w7 hw7
            cases b1 with
            | false =>
              go_wp2
              go_meet
              exact ⟨by rw [H1.out]; rfl, hw7⟩
            | true =>
              cases b2 with
              | false =>
                go_wp2
                go_meet
                exact ⟨by rw [H1.out]; rfl, hw7⟩
              | true =>
                go_wp2_with fail
                refine (isOdd_any _ _ _ _ _ _ (gf.ext hw7)).mono ?_
                rintro e w8 ⟨rfl, hw8⟩
                rw [HB3.out]
                go_wp2
                go_meet
                exact ⟨by rw [H1.out]; cases b3 <;> rfl, Ext.trans hw7 hw8⟩
    case rest =>
      obtain ⟨rfl, hE⟩ := hcut
      have bx := bx.ext' hE
      have c1 := c1.ext hE
      have e2 := e2.ext' hE
      have gf := gf.ext hE
      have HT := Lib.hid (HT.out.below hE)
      obtain ⟨hB7, hB7'⟩ := bnext hB6 hB6' hE
      have hzc := Below.size hE
      have hwr : e0 + ((bl : Int) - p) = e0 + ((k : Int) + 1) := by rw [HK3.out]
      have HWR := Lib.hid hwr; clear hwr
      clear k0 l0 l1 m0 m1 hB6 hE gh e1
      generalize hru : rup x k mode = ru at *
      have HRU := Lib.hid hru; clear hru
      have k0 := e2.c0
      have k1 := e2.c1
      cases ru with
      | false =>
        go_wp2_with fail
        rw [HWR.out]
        refine (dreduce_any _ _ _ _ _ _ _ gf (by omega) (by omega) HT.out).mono ?_
        rintro e w9 ⟨r, rfl, hr, hw9⟩
        have hsp : drd x e0 p mode = dmk F (e0 + ((k : Int) + 1)) := by rw [HD.out]; simp
        rw [← hsp] at hr
        have c1 := c1.below hw9
        obtain ⟨hB8, hB8'⟩ := bnext hB7 hB7' hw9
        obtain ⟨rb, rn, ro2, rk, rc, re, rfl⟩ := hr.parts
        clear hsp
        have q0 := c1.c0
        have q1 := c1.c1
        have q2 := c1.c2
        have q3 := c1.c3
        have f0 := c1.f 0
        have f1 := c1.f 1
        have f2 := c1.f 2
        have f3 := c1.f 3
        have hres := dn_stored c1 hr w hB8 (by omega)
        have z3 := c1.stored rb rn ro2 rk rc re
        have z0 := z3.c0
        have z1 := z3.c1
        have z2 := z3.c2
        have z4 := z3.c3
        have HRES := Lib.hid hres; clear hres z3
        go_wp2
        refine bodyPost_ret (v := .agg #[.bool rb, .bool rn, .slice ro2 rk rc, .int .i64 re]) (by simp [results, Tryz.results100, go_sem, z0, z1, z2, z4]) rfl ⟨_, rfl, ?_, ?_⟩
        · exact HRES.out.1
        · show Below _ _ _; rw [HBe.out]; exact HRES.out.2
      | true =>
        have ex0 : Ext wc wc := Ext.refl _
        have hT7 := HT.out
        go_upto_region 17 with fail
        go_cut [] from 65 (fun wx => ∃ sn so sk sc', Box wx D2 sn so sk sc' ∧ Bg wx sn so sk sc' (F + 1) ∧ DBox wx (B + 1) false false none 0 0 0 ∧ Table wx ∧ Below B w wx ∧ wc.heap.size ≤ wx.heap.size)
        case first =>
          go_region_with (first
            | (go_at_call 79; refine (one_any _).mono ?_; rintro e w10 ⟨on, oo, ok, oc, rfl, ho, hw10⟩; have ex1 : Ext wc w10 := Ext.trans (by first | exact (Below.refl _ _).drew | exact Ext.refl _) hw10; have c2 := e2.ext' ex1; have k0 := c2.c0; have k1 := c2.c1)
            | (go_at_call 138; refine (add_any _ _ _ _ _ _ _ _ _ _ _ (by exact gf.ext ex1) (by exact ho)).mono ?_; rintro e w11 ⟨sn, so, sk, sc', rfl, hs, hw11⟩; have ex2 : Ext wc w11 := ex1.trans hw11; clear k0 k1; have c2 := e2.ext' ex2; have q0 := c2.c0; have q1 := c2.c1; have f0 := c2.f 0; have f1 := c2.f 1))
          all_goals
            go_wp2
            go_meet
          all_goals
            have o1 := only_set2 w11 D2 (.bool sn) (.slice so sk sc')
            have hb1 := blen_add F 1
            have hb2 : blen (1 : Int).natAbs = 1 := by decide
            have hBw := (bnext hB7 hB7' ex2).1.trans (o1.below (B := B) (by omega))
            exact ⟨sn, so, sk, sc', c2.stored sn so sk sc', (bn_bg_of hs (by omega)).only_bx c2 o1, (c1.ext ex2).only o1 (by omega), HTw.out.below (by rw [HBe.out]; exact hBw), hBw, by rw [o1.size]; exact Below.size ex2⟩
        case rest =>
          obtain ⟨sn, so, sk, sc', e3, gf3, c3, hT9, hB8, hz9⟩ := hcut
          clear k0 k1 hT7
          have k0 := e3.c0
          have k1 := e3.c1
          have HT9 := Lib.hid hT9; clear hT9
          go_wp2_with fail
          rw [HWR.out]
          refine (dreduce_any _ _ _ _ _ _ _ gf3 (by omega) (by omega) HT9.out).mono ?_
          rintro e w9 ⟨r, rfl, hr, hw9⟩
          have hsp : drd x e0 p mode = dmk (F + 1) (e0 + ((k : Int) + 1)) := by rw [HD.out]; simp
          rw [← hsp] at hr
          have c1 := c3.below hw9
          obtain ⟨hB9, hB9'⟩ := bnext hB8 (by omega) hw9
          obtain ⟨rb, rn, ro2, rk, rc, re, rfl⟩ := hr.parts
          clear hsp
          have q0 := c1.c0
          have q1 := c1.c1
          have q2 := c1.c2
          have q3 := c1.c3
          have f0 := c1.f 0
          have f1 := c1.f 1
          have f2 := c1.f 2
          have f3 := c1.f 3
          have hres := dn_stored c1 hr w hB9 (by omega)
          have z3 := c1.stored rb rn ro2 rk rc re
          have z0 := z3.c0
          have z1 := z3.c1
          have z2 := z3.c2
          have z4 := z3.c3
          have HRES := Lib.hid hres; clear hres z3
          go_wp2
          refine bodyPost_ret (v := .agg #[.bool rb, .bool rn, .slice ro2 rk rc, .int .i64 re]) (by simp [results, Tryz.results100, go_sem, z0, z1, z2, z4]) rfl ⟨_, rfl, ?_, ?_⟩
          · exact HRES.out.1
          · show Below _ _ _; rw [HBe.out]; exact HRES.out.2

end Go.Proofs.YtjohpdobnedilaaGreatDoor

/- What dyad.Quo does. -/
namespace Go.Proofs.YtjohpdobnedilaaGreatDoor
open Go.RowKit

/-- x times 2^s, rounded down -/
def shf (x s : Int) : Int := if 0 ≤ s then x * 2 ^ s.toNat else x / 2 ^ (-s).toNat

theorem shift_any (nb : Bool) (ao : Option Addr) (n cap : Nat) (x s : Int) (w : World) (h : Bg w nb ao n cap x) (h0 : -1000000 ≤ s) (h1 : s ≤ 1000000) (hT : Table w) :
    Calls Tryz.prog 46 #[.agg #[.bool nb, .slice ao n cap], .int .i64 s] w fun e w' => ∃ nr ro l cr, e = .returned (.tuple #[.agg #[.bool nr, .slice ro l cr], .int .i64 0]) ∧ Bn w' nr ro l cr (shf x s) ∧ Below w.heap.size w w' := by
  unfold shf
  by_cases hs : 0 ≤ s
  · rw [if_pos hs]
    have := shift_left nb ao n cap x s.toNat w h (by omega)
    rwa [Int.toNat_of_nonneg hs] at this
  · rw [if_neg hs]
    have := shift_down0 nb ao n cap x (-s).toNat w h (by omega) hT
    rwa [Int.toNat_of_nonneg (by omega), Int.neg_neg] at this

theorem blen_shf (x s : Int) : blen (shf x s).natAbs ≤ blen x.natAbs + s.toNat := by
  unfold shf
  split
  · by_cases h : x = 0
    · subst h; simp [blen]
    · rw [natAbs_shift, blen_mul (by omega)]; exact Nat.le_refl _
  · refine Nat.le_trans (blen_le_of_lt (Nat.lt_of_le_of_lt (Int.natAbs_ediv_le_natAbs x _) (blen_lt _))) (by omega)
theorem shf_nonneg {x s : Int} (h : 0 ≤ x) : 0 ≤ shf x s := by
  unfold shf
  split
  · exact Int.mul_nonneg h (Int.le_of_lt (two_pos _))
  · exact Int.ediv_nonneg h (Int.le_of_lt (two_pos _))

/-- the shift of a quotient -/
def qsh (m m' p : Int) : Int := p + 1 + (blen m'.natAbs : Int) - blen m.natAbs
/-- the quotient with its tail -/
def qtail (m m' p : Int) : Int :=
  2 * (shf m.natAbs (qsh m m' p) / m'.natAbs) + if decide (qsh m m' p < 0) || sgn3 (shf m.natAbs (qsh m m' p) % m'.natAbs) 0 != 0 then 1 else 0
def qsgn (m m' N : Int) : Int := if (decide (m < 0)) != (decide (m' < 0)) then -N else N

/-- the rounded quotient -/
def dquo (d d' : Dy) (p mode : Int) : Dy := match d, d' with
  | some (m, e), some (m', e') => if 1 ≤ p ∧ p ≤ 4096 ∧ m' ≠ 0 then drd (qsgn m m' (qtail m m' p)) (e - e' - qsh m m' p - 1) p.toNat mode else none
  | _, _ => none

theorem bg_abs {w : World} {nb : Bool} {ao : Option Addr} {n ca : Nat} {x : Int} (h : Bg w nb ao n ca x) : Bg w false ao n ca x.natAbs := by
  obtain ⟨⟨zs, hs, hx⟩, hsm⟩ := h
  refine ⟨⟨zs, hs, ?_⟩, hsm⟩
  rw [hx, sgd_natAbs hs.wf]
  have := num_nonneg hs.wf
  simp [sgd]
  omega
theorem bg_sgn {w : World} {nb mb : Bool} {ao : Option Addr} {n ca : Nat} {x : Int} (h : Bg w nb ao n ca x) (h0 : 0 ≤ x) : Bg w mb ao n ca (if mb then -x else x) := by
  obtain ⟨⟨zs, hs, hx⟩, hsm⟩ := h
  refine ⟨⟨zs, hs, ?_⟩, hsm⟩
  have := num_nonneg hs.wf
  unfold sgd at hx ⊢
  cases nb <;> cases mb <;> simp at hx ⊢ <;> omega

theorem rounded_int (nb : Bool) (ao : Option Addr) (n ca : Nat) (x e0 p mode : Int) (w : World) (h : Bg w nb ao n ca x) (hbl : blen x.natAbs ≤ 900000) (he0 : -1000000000 ≤ e0) (he1 : e0 ≤ 1000000000) (hp : p ≤ 4096) (hp1 : 1 ≤ p) (hT : Table w) :
    Calls Tryz.prog 100 #[.agg #[.bool nb, .slice ao n ca], .int .i64 e0, .int .i64 p, .int .i64 mode] w fun e w' => ∃ v, e = .returned v ∧ Dn w' v (drd x e0 p.toNat mode) ∧ Ext w w' := by
  have := rounded_any nb ao n ca x e0 p.toNat mode w h hbl he0 he1 (by omega) (by omega) hT
  rwa [Int.toNat_of_nonneg (by omega)] at this

set_option maxRecDepth 100000 in
set_option maxHeartbeats 8000000 in
theorem dquo_any (u v : Value) (d d' : Dy) (p mode : Int) (w : World) (hu : Dg w u d) (hv : Dg w v d') (hT : Table w) :
    Calls Tryz.prog 40 #[u, v, .int .i64 p, .int .i64 mode] w fun e w' => ∃ r, e = .returned r ∧ Dn w' r (dquo d d' p mode) ∧ Ext w w' := by
  have hu0 := hu
  have hv0 := hv
  obtain ⟨ub, un, uo, uk, uc, _, uf, rfl, -⟩ := hu0
  obtain ⟨vb, vn, vo, vk, vc, _, vf, rfl, -⟩ := hv0
  go_enter Tryz.func40, Tryz.ntmps40
  go_upto_region 1 with fail
  obtain ⟨W, hW, hB, hbx, hby, hrx, hz⟩ := boxes_ddd w ub un uo uk uc uf vb vn vo vk vc vf
  rw [← hW]
  clear hW
  have hu := hu.ext hB
  have hv := hv.ext hB
  have HT0 := Lib.hid hT
  have hT := hT.below hB
  generalize hBe : w.heap.size = B at *
  have HBe := Lib.hid hBe; clear hBe
  go_cut [] from 18 (fun wx => ∃ xb xn xo xk xc xe yb yn yo yk yc ye, Dn wx (.agg #[.bool xb, .bool xn, .slice xo xk xc, .int .i64 xe]) d ∧ Dn wx (.agg #[.bool yb, .bool yn, .slice yo yk yc, .int .i64 ye]) d' ∧
    DBox wx B xb xn xo xk xc xe ∧ DBox wx (B + 1) yb yn yo yk yc ye ∧ Below B w wx ∧ (∀ k, B + 1 < k → k < W.heap.size → wx.heap[k]? = W.heap[k]?) ∧ W.heap.size ≤ wx.heap.size)
  case first =>
    have k0 := hbx.c0
    have k1 := hbx.c1
    have k2 := hbx.c2
    have k3 := hbx.c3
    have l0 := hby.c0
    have l1 := hby.c1
    have l2 := hby.c2
    have l3 := hby.c3
    go_region_with (first
      | (go_at_call 97; refine (dnormal_any _ _ _ (by exact hu.ext (by exact (Below.refl _ _).drew)) (by exact hT.below (by exact (Below.refl _ _).drew))).mono ?_; rintro e w1 ⟨r1, rfl, hr1, hw1⟩; have ex1 : Ext W w1 := Ext.trans (by exact (Below.refl _ _).drew) hw1; obtain ⟨xb, xn, xo, xk, xc, xe, rfl⟩ := hr1.parts; have fb := hby.ext ex1; have h0 := fb.c0; have h1 := fb.c1; have h2 := fb.c2; have h3 := fb.c3)
      | (go_at_call 97; refine (dnormal_any _ _ _ (by exact hv.ext ex1) (by exact hT.below ex1)).mono ?_; rintro e w2 ⟨r2, rfl, hr2, hw2⟩; have ex2 : Ext W w2 := Ext.trans ex1 hw2; obtain ⟨yb, yn, yo, yk, yc, ye, rfl⟩ := hr2.parts; have hr1 := hr1.ext hw2; clear h0 h1 h2 h3; have fa := hbx.ext ex2; have fb := hby.ext ex2; have a0 := fa.c0; have a1 := fa.c1; have a2 := fa.c2; have a3 := fa.c3; have b0 := fb.c0; have b1 := fb.c1; have b2 := fb.c2; have b3 := fb.c3; have g0 := fa.f 0; have g1 := fa.f 1; have g2 := fa.f 2; have g3 := fa.f 3; have h0 := fb.f 0; have h1 := fb.f 1; have h2 := fb.f 2; have h3 := fb.f 3))
    all_goals
      go_wp2
      go_meet
    all_goals
      clear a0 a1 a2 a3 b0 b1 b2 b3 g0 g1 g2 g3 h0 h1 h2 h3 k0 k1 k2 k3 l0 l1 l2 l3
      obtain ⟨hB2, hB2'⟩ := bnext hB (by omega) ex2
      obtain ⟨Z, hZ, z1, z2, z3, z4, z5, z6, z7⟩ := two_dyads fa fb (by omega) (Nat.le_refl B) (Nat.le_succ B) hr1 hr2 hB2
      rw [← hZ]
      exact ⟨_, _, _, _, _, _, _, _, _, _, _, _, z1, z2, z4, z5, z3, fun k hk1 hk2 => by rw [z6 k (by omega) (by omega)]; exact Below.block ex2 k hk2, by rw [z7]; exact Below.size ex2⟩
  case rest =>
    obtain ⟨xb, xn, xo, xk, xc, xe, yb, yn, yo, yk, yc, ye, hx, hy, bx, bY, hB1, hkeep, hzc⟩ := hcut
    have hT1 := (show Table w from HT0.out).below (w' := wc) (by rw [HBe.out]; exact hB1)
    have hrx : DBox wc (B + 1 + 1) false false none 0 0 0 := by
      have := hrx
      unfold DBox at this ⊢
      rw [hkeep _ (by omega) (by omega)]; exact this
    have HT := Lib.hid hT1
    clear hT1 hbx hby hu hv hT hB hkeep
    have k0 := bx.c0
    have k1 := bx.c1
    have k2 := bx.c2
    have k3 := bx.c3
    have l0 := bY.c0
    have l1 := bY.c1
    have l2 := bY.c2
    have l3 := bY.c3
    cases d with
    | none =>
      obtain rfl := dn_none hx
      go_wp2_with fail
      refine (bad_any _).mono ?_
      rintro e wz ⟨rfl, hwz⟩
      have c1 := hrx.below hwz
      obtain ⟨hB2, hB2'⟩ := bnext hB1 (by omega) hwz
      have q0 := c1.c0
      have q1 := c1.c1
      have q2 := c1.c2
      have q3 := c1.c3
      have f0 := c1.f 0
      have f1 := c1.f 1
      have f2 := c1.f 2
      have f3 := c1.f 3
      have hres := dn_stored c1 (dn_bad wz) w hB2 (by omega)
      have z3 := c1.stored true false none 0 0 0
      have z0 := z3.c0
      have z1 := z3.c1
      have z2 := z3.c2
      have z4 := z3.c3
      have HRES := Lib.hid hres; clear hres z3
      go_wp2
      refine bodyPost_ret (v := .agg #[.bool true, .bool false, .slice none 0 0, .int .i64 0]) (by simp [results, Tryz.results40, go_sem, z0, z1, z2, z4]) rfl ⟨_, rfl, ?_, ?_⟩
      · rw [show dquo none d' p mode = none from by cases d' <;> rfl]; exact HRES.out.1
      · show Below _ _ _; rw [HBe.out]; exact HRES.out.2
    | some q =>
      obtain ⟨m, f⟩ := q
      obtain ⟨rfl, rfl, hm⟩ := dn_some hx
      cases d' with
      | none =>
        obtain rfl := dn_none hy
        go_wp2_with fail
        refine (bad_any _).mono ?_
        rintro e wz ⟨rfl, hwz⟩
        have c1 := hrx.below hwz
        obtain ⟨hB2, hB2'⟩ := bnext hB1 (by omega) hwz
        have q0 := c1.c0
        have q1 := c1.c1
        have q2 := c1.c2
        have q3 := c1.c3
        have f0 := c1.f 0
        have f1 := c1.f 1
        have f2 := c1.f 2
        have f3 := c1.f 3
        have hres := dn_stored c1 (dn_bad wz) w hB2 (by omega)
        have z3 := c1.stored true false none 0 0 0
        have z0 := z3.c0
        have z1 := z3.c1
        have z2 := z3.c2
        have z4 := z3.c3
        have HRES := Lib.hid hres; clear hres z3
        go_wp2
        refine bodyPost_ret (v := .agg #[.bool true, .bool false, .slice none 0 0, .int .i64 0]) (by simp [results, Tryz.results40, go_sem, z0, z1, z2, z4]) rfl ⟨_, rfl, ?_, ?_⟩
        · rw [show dquo (some (m, xe)) none p mode = none from rfl]; exact HRES.out.1
        · show Below _ _ _; rw [HBe.out]; exact HRES.out.2
      | some q' =>
        obtain ⟨m', f'⟩ := q'
        obtain ⟨rfl, rfl, hm'⟩ := dn_some hy
        have hnx := nd_blen hx.1
        have hny := nd_blen hy.1
        simp only [dm, dx, Option.getD_some] at hnx hny
        obtain ⟨hnx, hx0, hx1⟩ := hnx
        obtain ⟨hny, hy0, hy1⟩ := hny
        have gm := bn_bg_of hm (by omega)
        have gm' := bn_bg_of hm' (by omega)
        have hdq : dquo (some (m, xe)) (some (m', ye)) p mode = if 1 ≤ p ∧ p ≤ 4096 ∧ m' ≠ 0 then drd (qsgn m m' (qtail m m' p)) (xe - ye - qsh m m' p - 1) p.toNat mode else none := rfl
        have hxn := hm.neg
        have hyn := hm'.neg
        have HDQ0 := Lib.hid hdq; clear hdq
        have HXN := Lib.hid hxn; clear hxn
        have HYN := Lib.hid hyn; clear hyn
        clear hx hy hm hm'
        by_cases hp : 1 ≤ p ∧ p ≤ 4096
        · have hpb : decide (1 ≤ p ∧ p ≤ 4096) = true := by simpa using hp
          have HPB := Lib.hid hpb; clear hpb
          obtain ⟨hp0, hp1⟩ := hp
          go_wp2_with fail
          refine (isPrec_any _ _).mono ?_
          rintro e w2 ⟨rfl, rfl⟩
          rw [HPB.out]
          go_wp2_with fail
          refine (sign_any _ _ _ _ _ _ gm').mono ?_
          rintro e w2 ⟨rfl, hw2⟩
          have gm := gm.below hw2
          have gm' := gm'.below hw2
          have bx := bx.below hw2
          have bY := bY.below hw2
          have hrx := hrx.below hw2
          obtain ⟨hB2, hB2'⟩ := bnext hB1 (by omega) hw2
          have hz2 := hw2.size
          clear k0 k1 k2 k3 l0 l1 l2 l3 hB1 hw2
          have k0 := bx.c0
          have k1 := bx.c1
          have k2 := bx.c2
          have k3 := bx.c3
          have l0 := bY.c0
          have l1 := bY.c1
          have l2 := bY.c2
          have l3 := bY.c3
          have f1 := bx.f 1
          have g1 := bY.f 1
          by_cases h0 : m' = 0
          · have hs0 : (sgn3 m' 0 == 0) = true := by simp [sgn3, h0]
            have hdq := HDQ0.out
            rw [if_neg (by omega)] at hdq
            have HDQ := Lib.hid hdq; clear hdq h0
            go_wp2_with fail
            refine (bad_any _).mono ?_
            rintro e wz ⟨rfl, hwz⟩
            have c1 := hrx.below hwz
            obtain ⟨hB2, hB2'⟩ := bnext hB2 (by omega) hwz
            have q0 := c1.c0
            have q1 := c1.c1
            have q2 := c1.c2
            have q3 := c1.c3
            have f0 := c1.f 0
            have f1 := c1.f 1
            have f2 := c1.f 2
            have f3 := c1.f 3
            have hres := dn_stored c1 (dn_bad wz) w hB2 (by omega)
            have z3 := c1.stored true false none 0 0 0
            have z0 := z3.c0
            have z1 := z3.c1
            have z2 := z3.c2
            have z4 := z3.c3
            have HRES := Lib.hid hres; clear hres z3
            go_wp2
            refine bodyPost_ret (v := .agg #[.bool true, .bool false, .slice none 0 0, .int .i64 0]) (by simp [results, Tryz.results40, go_sem, z0, z1, z2, z4]) rfl ⟨_, rfl, ?_, ?_⟩
            · rw [HDQ.out]; exact HRES.out.1
            · show Below _ _ _; rw [HBe.out]; exact HRES.out.2
          · have hs0 : (sgn3 m' 0 == 0) = false := by
              have : sgn3 m' 0 ≠ 0 := fun h => h0 (sgn3_zero h)
              simpa using this
            have hdq := HDQ0.out
            rw [if_pos ⟨hp0, hp1, h0⟩] at hdq
            have HDQ := Lib.hid hdq; clear hdq
            have H0 := Lib.hid h0; clear h0
            go_upto_region 6 with fail
            have o1 := only_set1 w2 B 1 (.bool false)
            have gm := bg_abs (gm.only_dbox bx o1)
            have gm' := gm'.only_dbox bx o1
            have bY := bY.only o1 (by omega)
            have hrx := hrx.only o1 (by omega)
            have bx := bx.stored1 false
            have hB3 := hB2.trans (o1.below (B := B) (Nat.le_refl B))
            have hz3 := o1.size
            clear o1 k0 k1 k2 k3 l0 l1 l2 l3 f1 g1 hB2
            generalize w2.setCell ⟨B, 1, none⟩ (.bool false) = w3 at *
            have o2 := only_set1 w3 (B + 1) 1 (.bool false)
            have gm := gm.only_dbox bY o2
            have gm' := bg_abs (gm'.only_dbox bY o2)
            have bx := bx.only o2 (by omega)
            have hrx := hrx.only o2 (by omega)
            have bY := bY.stored1 false
            have hB4 := hB3.trans (o2.below (B := B) (by omega))
            have hz4 := o2.size
            clear o2 hB3
            generalize w3.setCell ⟨B + 1, 1, none⟩ (.bool false) = w4 at *
            have hT4 := (show Table w from HT0.out).below (w' := w4) (by rw [HBe.out]; exact hB4)
            have HT := Lib.hid hT4; clear hT4
            have hcells : ∀ wx, Ext w4 wx → (wx.cell? ⟨B, 0, none⟩ = some (.bool false) ∧ wx.cell? ⟨B, 1, none⟩ = some (.bool false) ∧ wx.cell? ⟨B, 2, none⟩ = some (.slice xo xk xc) ∧ wx.cell? ⟨B, 3, none⟩ = some (.int .i64 xe)) ∧
            (wx.cell? ⟨B + 1, 0, none⟩ = some (.bool false) ∧ wx.cell? ⟨B + 1, 1, none⟩ = some (.bool false) ∧ wx.cell? ⟨B + 1, 2, none⟩ = some (.slice yo yk yc) ∧ wx.cell? ⟨B + 1, 3, none⟩ = some (.int .i64 ye)) := fun wx h =>
              ⟨⟨(bx.ext h).c0, (bx.ext h).c1, (bx.ext h).c2, (bx.ext h).c3⟩, ⟨(bY.ext h).c0, (bY.ext h).c1, (bY.ext h).c2, (bY.ext h).c3⟩⟩
            have HC := Lib.hid hcells; clear hcells
            have ex0 : Ext w4 w4.drew := (Below.refl _ _).drew
            obtain ⟨⟨k0, k1, k2, k3⟩, l0, l1, l2, l3⟩ := HC.out w4 (Ext.refl _)
            have e1 : ((m.natAbs : Int)).natAbs = m.natAbs := Int.natAbs_natCast _
            have e2 : ((m'.natAbs : Int)).natAbs = m'.natAbs := Int.natAbs_natCast _
            have hqs : qsh m m' p = p + 1 + (blen m'.natAbs : Int) - blen m.natAbs := rfl
            obtain ⟨bm, hbm⟩ : ∃ bm, blen m.natAbs = bm := ⟨_, rfl⟩
            obtain ⟨bm', hbm'⟩ : ∃ bm, blen m'.natAbs = bm := ⟨_, rfl⟩
            rw [hbm, hbm'] at hqs
            rw [hbm] at hnx
            rw [hbm'] at hny
            have HBM : Hid (blen ((m.natAbs : Int)).natAbs = bm) := Lib.hid (by rw [e1]; exact hbm)
            have HBM' : Hid (blen ((m'.natAbs : Int)).natAbs = bm') := Lib.hid (by rw [e2]; exact hbm')
            clear e1 e2 hbm hbm'
            generalize hshv : qsh m m' p = sh at *
            have HSH := Lib.hid hshv; clear hshv
            have hsh0 : -1000000 ≤ sh := by omega
            have hsh1 : sh ≤ 1000000 := by omega
            have hsh2 : sh ≤ 140000 := by omega
            have HQS := Lib.hid hqs; clear hqs
            have w1' : IntKind.i64.wrap (p + 1) = p + 1 := IntWalk.i64_in _ ⟨by omega, by omega⟩
            have w2' : IntKind.i64.wrap (p + 1 + (bm' : Int)) = p + 1 + bm' := IntWalk.i64_in _ ⟨by omega, by omega⟩
            have w3' : IntKind.i64.wrap (p + 1 + (bm' : Int) - bm) = sh := by rw [HQS.out]; exact IntWalk.i64_in _ ⟨by omega, by omega⟩
            go_region_held3 (fun wx => (wx.cell? ⟨B, 0, none⟩ = some (.bool false) ∧ wx.cell? ⟨B, 1, none⟩ = some (.bool false) ∧ wx.cell? ⟨B, 2, none⟩ = some (.slice xo xk xc) ∧ wx.cell? ⟨B, 3, none⟩ = some (.int .i64 xe)) ∧
            (wx.cell? ⟨B + 1, 0, none⟩ = some (.bool false) ∧ wx.cell? ⟨B + 1, 1, none⟩ = some (.bool false) ∧ wx.cell? ⟨B + 1, 2, none⟩ = some (.slice yo yk yc) ∧ wx.cell? ⟨B + 1, 3, none⟩ = some (.int .i64 ye)))
              (first | exact HC.out _ (by assumption))
              (first
                | (go_at_call 48; refine (bitLenOut_any _ _ _ _ _ _ (by exact gm'.ext ex0)).mono ?_; rintro e w5 ⟨rfl, hw5⟩; rw [HBM'.out]; have ex1 : Ext w4 w5 := ex0.trans hw5)
                | (go_at_call 48; refine (bitLenOut_any _ _ _ _ _ _ (by exact gm.ext ex1)).mono ?_; rintro e w6 ⟨rfl, hw6⟩; rw [HBM.out]; have ex2 : Ext w4 w6 := ex1.trans hw6))
            have hq1 : qtail m m' p = 2 * (shf m.natAbs sh / m'.natAbs) + if decide (sh < 0) || sgn3 (shf m.natAbs sh % m'.natAbs) 0 != 0 then 1 else 0 := by
              unfold qtail; rw [HSH.out]
            have HQ1 := Lib.hid hq1; clear hq1
            have hB5 := (bnext hB4 (by omega) ex2).1
            have gm6 := gm.ext ex2
            have gm6' := gm'.ext ex2
            have hT6 := HT.out.below ex2
            have hzz6 := Below.size ex2
            clear k0 k1 k2 k3 l0 l1 l2 l3 ex0 ex1 hw5 hw6 w1' w2' w3' hB4
            obtain ⟨⟨k0, k1, k2, k3⟩, l0, l1, l2, l3⟩ := HC.out w6 ex2
            generalize hmx : (m.natAbs : Int) = mx at *
            generalize hmy : (m'.natAbs : Int) = my at *
            have hmx0 : 0 ≤ mx := by omega
            have hmy0 : my ≠ 0 := by have := H0.out; omega
            have HMX := Lib.hid hmx; clear hmx
            have HMY := Lib.hid hmy; clear hmy
            have HT6 := Lib.hid hT6; clear hT6
            have hbs := blen_shf mx sh
            rw [HBM.out] at hbs
            have hA0 := shf_nonneg (s := sh) hmx0
            go_wp2_with fail
            refine (shift_any _ _ _ _ _ sh _ gm6 hsh0 hsh1 HT6.out).mono ?_
            rintro e w7 ⟨an, ao', al, ac, rfl, hA, hw7⟩
            generalize hAv : shf mx sh = A at *
            have hal : al ≤ 40000 := by rw [← hA.sl.len]; exact limbs_of_blen (by omega)
            have ex3 : Ext w4 w7 := ex2.trans hw7
            obtain ⟨hB6, hB6'⟩ := bnext hB5 (by omega) hw7
            have gA := bn_bg_of hA (by omega)
            clear k0 k1 k2 k3 l0 l1 l2 l3 hA
            have HAV := Lib.hid hAv; clear hAv
            go_upto_region 8 with fail
            obtain ⟨V1, hV, hv, e1, hz7⟩ := box_new w7 an ao' al ac
            rw [← hV]
            clear hV
            have gA := gA.below hv
            have ex4 := ex3.trans hv
            have gy := gm'.ext ex4
            obtain ⟨hB7, hB7'⟩ := bnext hB6 hB6' hv
            have hD1 : B + 3 ≤ w7.heap.size := by have := Below.size ex3; omega
            generalize w7.heap.size = D1 at *
            obtain ⟨⟨k0, k1, k2, k3⟩, l0, l1, l2, l3⟩ := HC.out V1 ex4
            have m0 := e1.c0
            have m1 := e1.c1
            go_wp2_with fail
            refine (divMod_any _ _ _ _ _ _ _ _ _ _ _ gA gy hmy0 (by omega) (div_says _ _ (by omega))).mono ?_
            rintro e w8 ⟨qn, qo, qk, qc, rn, ro, rk, rc, rfl, hq, hr, hw8⟩
            have ex5 : Ext w4 w8 := ex4.trans hw8
            obtain ⟨hB8, hB8'⟩ := bnext hB7 hB7' hw8
            have hqb : blen (A / my).natAbs ≤ 400000 := Nat.le_trans (blen_le_of_lt (Nat.lt_of_le_of_lt (Int.natAbs_ediv_le_natAbs A my) (blen_lt _))) (by omega)
            have hrb : blen (A % my).natAbs ≤ 400000 := Nat.le_trans (blen_le_of_lt (Nat.lt_of_le_of_lt (show (A % my).natAbs ≤ my.natAbs by have := Int.emod_nonneg A hmy0; have := Int.emod_lt A hmy0; omega) (blen_lt _))) (by rw [HBM'.out]; omega)
            have gq := bn_bg_of hq (by omega)
            have gr := bn_bg_of hr (by omega)
            have hq0 : 0 ≤ A / my := Int.ediv_nonneg hA0 (by have := HMY.out; omega)
            clear k0 k1 k2 k3 l0 l1 l2 l3 hq hr m0 m1 e1
            go_upto_region 9 with fail
            obtain ⟨V2, hV, hv2, e2, e3⟩ := boxes_bb w8 qn qo qk qc rn ro rk rc
            rw [← hV]
            clear hV
            have gq := gq.below hv2
            have gr := gr.below hv2
            have ex6 : Ext w4 V2 := ex5.trans hv2
            obtain ⟨hB9, hB9'⟩ := bnext hB8 hB8' hv2
            have hD2 : B + 3 ≤ w8.heap.size := by have := Below.size ex5; omega
            generalize w8.heap.size = D2 at *
            generalize hqv : A / my = Q at *
            generalize hrv : A % my = R at *
            have HQV := Lib.hid hqv; clear hqv
            have HRV := Lib.hid hrv; clear hrv
            have m0 := e3.c0
            have m1 := e3.c1
            go_cut [16] from 17 (fun b wx => b = .bool (decide (sh < 0) || sgn3 R 0 != 0) ∧ Ext V2 wx)
            case first =>
              by_cases hs0 : sh < 0
              · have hlb : (decide (sh < 0) || sgn3 R 0 != 0) = true := by simp [hs0]
                have HLB := Lib.hid hlb; clear hlb
                go_wp2
                go_meet
                exact ⟨by rw [HLB.out], Ext.refl _⟩
              · obtain ⟨sr, hsr⟩ : ∃ sr, sgn3 R 0 = sr := ⟨_, rfl⟩
                have hlb : (decide (sh < 0) || sgn3 R 0 != 0) = (sr != 0) := by rw [hsr]; simp [hs0]
                have HSR := Lib.hid hsr; clear hsr
                have HLB := Lib.hid hlb; clear hlb
                go_wp2_with fail
                refine (sign_any _ _ _ _ _ _ gr).mono ?_
                rintro e w9 ⟨rfl, hw9⟩
                rw [HSR.out]
                go_wp2
                go_meet
                exact ⟨by rw [HLB.out], hw9⟩
            case rest =>
              obtain ⟨rfl, hE⟩ := hcut
              generalize hlv : (decide (sh < 0) || sgn3 R 0 != 0) = L at *
              have HLV := Lib.hid hlv; clear hlv m0 m1
              have ex7 : Ext w4 wc := ex6.trans hE
              have e2 := e2.ext' hE
              have gq := gq.ext hE
              obtain ⟨hB10, hB10'⟩ := bnext hB9 hB9' hE
              obtain ⟨⟨k0, k1, k2, k3⟩, l0, l1, l2, l3⟩ := HC.out wc ex7
              have m0 := e2.c0
              have m1 := e2.c1
              go_wp2_with fail
              refine (withTail_any _ _ _ _ _ _ _ gq (by omega)).mono ?_
              rintro e w10 ⟨⟨tn, tp, tl, tc, rfl, ht⟩, hw10⟩
              have htb : blen (2 * Q + if L then 1 else 0).natAbs ≤ 500000 := by
                have h1 := blen_add (2 * Q) (if L then 1 else 0)
                have h2 := blen_two Q
                rw [Int.mul_comm] at h2
                have h3 : blen (if L then (1 : Int) else 0).natAbs ≤ 1 := by cases L <;> decide
                omega
              have ht0 : 0 ≤ 2 * Q + if L then 1 else 0 := by cases L <;> simp <;> omega
              have ex8 : Ext w4 w10 := ex7.trans hw10
              obtain ⟨hB11, hB11'⟩ := bnext hB10 hB10' hw10
              clear k0 k1 k2 k3 l0 l1 l2 l3 m0 m1
              generalize hnv : (2 * Q + if L then 1 else 0) = N at *
              have gt := bn_bg_of ht (by omega)
              have HNV := Lib.hid hnv; clear hnv ht
              go_upto_region 11 with fail
              obtain ⟨V3, hV, hv3, e4, hz9⟩ := box_new w10 tn tp tl tc
              rw [← hV]
              clear hV
              have gt := gt.below hv3
              have ex9 : Ext w4 V3 := ex8.trans hv3
              obtain ⟨hB12, hB12'⟩ := bnext hB11 hB11' hv3
              have hD3 : B + 3 ≤ w10.heap.size := by have := Below.size ex8; omega
              generalize w10.heap.size = D3 at *
              have m0 := e4.c0
              have m2 := e4.f 0
              go_upto_region 12 with fail
              have o3 := only_set1 V3 D3 0 (.bool (!(xn == yn)))
              have gt := bg_sgn (mb := !(xn == yn)) (gt.only_bx e4 o3) ht0
              have e4 := e4.stored0 (!(xn == yn))
              have bxf := (bx.ext ex9).only o3 (by omega)
              have bYf := (bY.ext ex9).only o3 (by omega)
              have rxf := (hrx.ext ex9).only o3 (by omega)
              have hB13 := hB12.trans (o3.below (B := B) (by omega))
              have hz10 := o3.size
              have hzz9 := Below.size ex9
              clear m0 m2 o3
              generalize V3.setCell ⟨D3, 0, none⟩ (.bool (!(xn == yn))) = w11 at *
              have hT11 := (show Table w from HT0.out).below (w' := w11) (by rw [HBe.out]; exact hB13)
              have HT11 := Lib.hid hT11; clear hT11
              have m0 := e4.c0
              have m1 := e4.c1
              have k3 := bxf.c3
              have l3 := bYf.c3
              have hfin : drd (if (!(xn == yn)) then -N else N) (xe - ye - sh - 1) p.toNat mode = dquo (some (m, xe)) (some (m', ye)) p mode := by
                rw [HDQ.out, HQ1.out]
                unfold qsgn
                rw [HXN.out, HYN.out]; rfl
              have HF := Lib.hid hfin; clear hfin
              have hgb : blen (if (!(xn == yn)) then -N else N).natAbs ≤ 500000 := by cases (!(xn == yn)) <;> simp <;> exact htb
              generalize hgv : (if (!(xn == yn)) then -N else N) = G at *
              have HGV := Lib.hid hgv; clear hgv
              go_wp2_with fail
              refine (rounded_int _ _ _ _ _ _ _ _ _ gt (by omega) (by omega) (by omega) hp1 hp0 HT11.out).mono ?_
              rintro e w12 ⟨r, rfl, hr, hw12⟩
              rw [HF.out] at hr
              have c1 := rxf.below hw12
              obtain ⟨hB14, hB14'⟩ := bnext hB13 (by omega) hw12
              obtain ⟨rb, rn2, ro2, rk2, rc2, re, rfl⟩ := hr.parts
              have q0 := c1.c0
              have q1 := c1.c1
              have q2 := c1.c2
              have q3 := c1.c3
              have f0 := c1.f 0
              have f1 := c1.f 1
              have f2 := c1.f 2
              have f3 := c1.f 3
              have hres := dn_stored c1 hr w hB14 (by omega)
              have z3 := c1.stored rb rn2 ro2 rk2 rc2 re
              have z0 := z3.c0
              have z1 := z3.c1
              have z2 := z3.c2
              have z4 := z3.c3
              have HRES := Lib.hid hres; clear hres z3
              go_wp2
              refine bodyPost_ret (v := .agg #[.bool rb, .bool rn2, .slice ro2 rk2 rc2, .int .i64 re]) (by simp [results, Tryz.results40, go_sem, z0, z1, z2, z4]) rfl ⟨_, rfl, ?_, ?_⟩
              · exact HRES.out.1
              · show Below _ _ _; rw [HBe.out]; exact HRES.out.2
        · have hpb : decide (1 ≤ p ∧ p ≤ 4096) = false := by simpa using hp
          have HPB := Lib.hid hpb; clear hpb
          have hdq := HDQ0.out
          rw [if_neg (by omega)] at hdq
          have HDQ := Lib.hid hdq; clear hdq hp
          go_wp2_with fail
          refine (isPrec_any _ _).mono ?_
          rintro e w2 ⟨rfl, rfl⟩
          rw [HPB.out]
          go_wp2_with fail
          refine (bad_any _).mono ?_
          rintro e wz ⟨rfl, hwz⟩
          have c1 := hrx.below hwz
          obtain ⟨hB2, hB2'⟩ := bnext hB1 (by omega) hwz
          have q0 := c1.c0
          have q1 := c1.c1
          have q2 := c1.c2
          have q3 := c1.c3
          have f0 := c1.f 0
          have f1 := c1.f 1
          have f2 := c1.f 2
          have f3 := c1.f 3
          have hres := dn_stored c1 (dn_bad wz) w hB2 (by omega)
          have z3 := c1.stored true false none 0 0 0
          have z0 := z3.c0
          have z1 := z3.c1
          have z2 := z3.c2
          have z4 := z3.c3
          have HRES := Lib.hid hres; clear hres z3
          go_wp2
          refine bodyPost_ret (v := .agg #[.bool true, .bool false, .slice none 0 0, .int .i64 0]) (by simp [results, Tryz.results40, go_sem, z0, z1, z2, z4]) rfl ⟨_, rfl, ?_, ?_⟩
          · rw [HDQ.out]; exact HRES.out.1
          · show Below _ _ _; rw [HBe.out]; exact HRES.out.2
end Go.Proofs.YtjohpdobnedilaaGreatDoor
