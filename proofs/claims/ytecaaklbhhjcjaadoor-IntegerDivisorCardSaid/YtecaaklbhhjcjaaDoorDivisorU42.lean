import Derived.Test.YtecaaklbhhjcjaaDoorDivisorU15
import Derived.Test.YtecaaklbhhjcjaaDoorDivisorU29
import Derived.Test.YtecaaklbhhjcjaaDoorDivisorU0
import Derived.Test.YtecaaklbhhjcjaaDoorDivisorU41
namespace Go.Proofs.YtecaaklbhhjcjaaDoor
open Go.RowKit

section
variable {W w : World} {L : List Ent} {u v : Value} {x y : Int} {N M : Nat} {c d : Bool}
/-- the greatest common divisor of two integers -/
def gcdI (x y : Int) : Int := ((Nat.gcd x.natAbs y.natAbs : Nat) : Int)
theorem gcdI_abs {x y : Int} {N M : Nat} (hx : x.natAbs < 4294967296 ^ N) (hy : y.natAbs < 4294967296 ^ M) : (gcdI x y).natAbs < 4294967296 ^ (max N M) := by
  unfold gcdI
  rw [Int.natAbs_natCast]
  have h1 := Nat.lt_of_lt_of_le hx (pow_le (Nat.le_max_left N M))
  have h2 := Nat.lt_of_lt_of_le hy (pow_le (Nat.le_max_right N M))
  by_cases h0 : x.natAbs = 0
  · rw [h0, Nat.gcd_zero_left]; exact h2
  · exact Nat.lt_of_le_of_lt (Nat.gcd_le_left _ (Nat.pos_of_ne_zero h0)) h1
theorem gcd_bagF (h : St W w L) (h1 : ⟨u, x, N, c⟩ ∈ L) (h2 : ⟨v, y, M, d⟩ ∈ L) (hN : N ≤ 100000) (hM : M ≤ 100000) :
    Calls Tryd.prog 6 #[u, v] w fun e w' => ∃ gn go gk gc, e = .returned (.agg #[.bool gn, .slice go gk gc]) ∧ St W w' (⟨.agg #[.bool gn, .slice go gk gc], gcdI x y, max N M, true⟩ :: L) := by
  obtain ⟨nb, ao, n, ca, rfl, b1, n1, a1, _⟩ := h.bag _ h1
  obtain ⟨mb, bo, m, cb, rfl, b2, n2, a2, _⟩ := h.bag _ h2
  simp only at n1 n2 a1 a2 b1 b2
  refine (gcd_any nb mb ao n ca bo m cb x y w b1 b2 (by omega) (by omega)).mono fun e w' ⟨nr, ro, k, cr, he, hr, hw⟩ => ⟨_, _, _, _, he, h.push hw (ok_bn hr (gcdI_abs a1 a2) (by omega))⟩
theorem gcd_bag (h : St W w L) (h1 : ⟨u, x, N, c⟩ ∈ L) (h2 : ⟨v, y, M, d⟩ ∈ L) (hN : N ≤ 100000) (hM : M ≤ 100000) :
    Calls Tryd.prog 6 #[u, v] w fun e w' => ∃ r, e = .returned r ∧ St W w' (⟨r, gcdI x y, max N M, true⟩ :: L) :=
  (gcd_bagF h h1 h2 hN hM).mono fun _ _ ⟨_, _, _, _, he, hs⟩ => ⟨_, he, hs⟩
end
theorem gcdI_mul (x y z : Int) : gcdI (z * x) (z * y) = (z.natAbs : Int) * gcdI x y := by
  unfold gcdI
  rw [Int.natAbs_mul, Int.natAbs_mul, Nat.gcd_mul_left]
  push_cast; rfl
theorem gcdI_neg (x y : Int) : gcdI y (-x) = gcdI x y := by
  unfold gcdI
  rw [Int.natAbs_neg, Nat.gcd_comm]
theorem gcdI_dvd (x y : Int) : x = x / gcdI x y * gcdI x y ∧ y = y / gcdI x y * gcdI x y := by
  have h1 : gcdI x y ∣ x := by unfold gcdI; exact Int.ofNat_dvd_left.2 (Nat.gcd_dvd_left _ _)
  have h2 : gcdI x y ∣ y := by unfold gcdI; exact Int.ofNat_dvd_left.2 (Nat.gcd_dvd_right _ _)
  exact ⟨(Int.ediv_mul_cancel h1).symm, (Int.ediv_mul_cancel h2).symm⟩
theorem gcdI_zero {x y : Int} (h : gcdI x y = 0) : x = 0 ∧ y = 0 := by
  unfold gcdI at h
  have h1 := Nat.gcd_eq_zero_iff.1 (Int.ofNat_eq_zero.1 h)
  omega

set_option maxRecDepth 100000 in
set_option maxHeartbeats 4000000 in
theorem divisor_yes (nb mb lb : Bool) (ao bo co : Option Addr) (n m l ca cb cc : Nat) (xs ys zs : List Int) (w : World) (ha : Sl w ao n ca xs) (hb : Sl w bo m cb ys) (hc : Sl w co l cc zs) (hn : n ≤ 20) (hm : m ≤ 20) (hl : l ≤ 20) (haw : AwakeSays w) :
    Calls Tryd.prog 3 #[.agg #[.bool nb, .slice ao n ca], .agg #[.bool mb, .slice bo m cb], .agg #[.bool lb, .slice co l cc]] w fun e w' => e = .returned (.bool true) ∧ Ext w w' := by
  go_enter Tryd.func3, Tryd.ntmps3
  go_wp2_with fail
  obtain ⟨W, hW, hB, hx, hy, hz⟩ := boxes_in w nb ao n ca mb bo m cb lb co l cc
  rw [← hW]
  clear hW
  have ra := ok_raw (nb := nb) (ha.below hB) 20 hn (by omega)
  have rb := ok_raw (nb := mb) (hb.below hB) 20 hm (by omega)
  have rc := ok_raw (nb := lb) (hc.below hB) 20 hl (by omega)
  have hAW : AwakeSays W := fun w' h => haw w' (hB.trans h)
  generalize sgd nb xs = x at *
  generalize sgd mb ys = y at *
  generalize sgd lb zs = z at *
  generalize hg : w.heap.size = B at *
  have HG := Lib.hid hg; clear hg
  have hst : St W W [⟨.agg #[.bool nb, .slice ao n ca], x, 20, false⟩, ⟨.agg #[.bool mb, .slice bo m cb], y, 20, false⟩, ⟨.agg #[.bool lb, .slice co l cc], z, 20, false⟩, ⟨.agg #[.bool false, .slice none 0 0], 0, 0, true⟩] :=
    ⟨Ext.refl W, fun p hp => by
      simp only [List.mem_cons, List.not_mem_nil, or_false] at hp
      rcases hp with rfl | rfl | rfl | rfl
      · exact ra
      · exact rb
      · exact rc
      · exact ok_zero W⟩
  have HB := Lib.hid hB
  clear ha hb hc ra rb rc hB haw
  have hcells : ∀ wx, Ext W wx → (wx.cell? ⟨B, 0, none⟩ = some (.bool nb) ∧ wx.cell? ⟨B, 1, none⟩ = some (.slice ao n ca) ∧ wx.cell? ⟨B + 1, 0, none⟩ = some (.bool mb) ∧ wx.cell? ⟨B + 1, 1, none⟩ = some (.slice bo m cb) ∧ wx.cell? ⟨B + 1 + 1, 0, none⟩ = some (.bool lb) ∧ wx.cell? ⟨B + 1 + 1, 1, none⟩ = some (.slice co l cc)) := fun wx h =>
    ⟨(hx.below h).c0, (hx.below h).c1, (hy.below h).c0, (hy.below h).c1, (hz.below h).c0, (hz.below h).c1⟩
  have HC := Lib.hid hcells
  clear hcells hx hy hz
  refine (slim_yes nb ao n ca 20 _ hn).mono ?_
  rintro e w1 ⟨rfl, h1⟩
  have st1 := hst.step h1
  obtain ⟨d0, d1, d2, d3, d4, d5⟩ := HC.out w1 st1.ext
  clear h1
  go_wp2_with fail
  refine (slim_yes mb bo m cb 20 _ hm).mono ?_
  rintro e w2 ⟨rfl, h2⟩
  have st2 := st1.step h2
  clear d0 d1 d2 d3 d4 d5 st1 h2
  obtain ⟨d0, d1, d2, d3, d4, d5⟩ := HC.out w2 st2.ext
  go_wp2_with fail
  refine (slim_yes lb co l cc 20 _ hl).mono ?_
  rintro e w3 ⟨rfl, h3⟩
  have st3 := st2.step h3
  clear d0 d1 d2 d3 d4 d5 st2 h3 hst
  obtain ⟨d0, d1, d2, d3, d4, d5⟩ := HC.out w3 st3.ext
  go_wp2_with fail
  refine (gcd_bagF st3 (List.Mem.head _) (List.Mem.tail _ (List.Mem.head _)) (by omega) (by omega)).mono ?_
  rintro e w4 ⟨gn, go, gk, gc, rfl, st4⟩
  clear d0 d1 d2 d3 d4 d5 st3
  obtain ⟨d0, d1, d2, d3, d4, d5⟩ := HC.out w4 st4.ext
  go_upto_region 4 with fail
  obtain ⟨V, hV, hE, hbg, -⟩ := box_new w4 gn go gk gc
  rw [← hV]
  clear hV d0 d1 d2 d3 d4 d5
  have st5 := st4.step hE
  have hWV := st5.ext
  have stn : St V V _ := ⟨Ext.refl V, st5.bag⟩
  have HAV : Hid (AwakeSays V) := Lib.hid (fun w' h => hAW w' (hWV.trans h))
  generalize w4.heap.size = G at *
  have HC2 := Lib.hid (show ∀ wx, Ext V wx → (wx.cell? ⟨B, 0, none⟩ = some (.bool nb) ∧ wx.cell? ⟨B, 1, none⟩ = some (.slice ao n ca) ∧ wx.cell? ⟨B + 1, 0, none⟩ = some (.bool mb) ∧ wx.cell? ⟨B + 1, 1, none⟩ = some (.slice bo m cb) ∧ wx.cell? ⟨B + 1 + 1, 0, none⟩ = some (.bool lb) ∧ wx.cell? ⟨B + 1 + 1, 1, none⟩ = some (.slice co l cc)) ∧ wx.cell? ⟨G, 0, none⟩ = some (.bool gn) ∧ wx.cell? ⟨G, 1, none⟩ = some (.slice go gk gc) from fun wx h => ⟨HC.out wx (hWV.trans h), (hbg.below h).c0, (hbg.below h).c1⟩)
  have HWV := Lib.hid (HB.out.trans hWV)
  clear st4 st5 hWV hE hbg hAW HC HB
  have HE1 := Lib.hid (gcdI_mul x y z)
  have HE2 := Lib.hid (gcdI_neg x y)
  have HD := Lib.hid (gcdI_dvd x y)
  have HZ := Lib.hid (fun h : gcdI x y = 0 => gcdI_zero h)
  have HP := Lib.hid (show 0 ≤ gcdI x y from Int.natCast_nonneg _)
  obtain ⟨⟨d0, d1, d2, d3, d4, d5⟩, g0, g1⟩ := HC2.out _ stn.ext
  have std := stn.drew
  go_region_held3 (fun wx => (wx.cell? ⟨B, 0, none⟩ = some (.bool nb) ∧ wx.cell? ⟨B, 1, none⟩ = some (.slice ao n ca) ∧ wx.cell? ⟨B + 1, 0, none⟩ = some (.bool mb) ∧ wx.cell? ⟨B + 1, 1, none⟩ = some (.slice bo m cb) ∧ wx.cell? ⟨B + 1 + 1, 0, none⟩ = some (.bool lb) ∧ wx.cell? ⟨B + 1 + 1, 1, none⟩ = some (.slice co l cc)) ∧ wx.cell? ⟨G, 0, none⟩ = some (.bool gn) ∧ wx.cell? ⟨G, 1, none⟩ = some (.slice go gk gc))
    (first | exact HC2.out _ (by exact St.ext (by assumption)))
    (first
      | (go_at_call 6; refine (gcd_bag (W := V) (by assumption) (by repeat (first | exact List.Mem.head _ | refine List.Mem.tail _ ?_)) (by repeat (first | exact List.Mem.head _ | refine List.Mem.tail _ ?_)) (by omega) (by omega)).mono ?_; rintro e wn ⟨r, rfl, stn⟩)
      | (go_at_call 8; refine (mul_bag (W := V) (by assumption) (by repeat (first | exact List.Mem.head _ | refine List.Mem.tail _ ?_)) (by repeat (first | exact List.Mem.head _ | refine List.Mem.tail _ ?_)) (by omega) (by omega) (by omega)).mono ?_; rintro e wn ⟨r, rfl, stn⟩)
      | (go_at_call 9; refine (abs_bag (W := V) (by assumption) (by repeat (first | exact List.Mem.head _ | refine List.Mem.tail _ ?_)) (by omega)).mono ?_; rintro e wn ⟨r, rfl, stn⟩)
      | (go_at_call 10; refine (neg_bag (W := V) (by assumption) (by repeat (first | exact List.Mem.head _ | refine List.Mem.tail _ ?_)) (by omega)).mono ?_; rintro e wn ⟨r, rfl, stn⟩)
      | (go_at_call 7; refine (big_bag (W := V) (by assumption) (by repeat (first | exact List.Mem.head _ | refine List.Mem.tail _ ?_)) (by repeat (first | exact List.Mem.head _ | refine List.Mem.tail _ ?_)) (by first | exact HE1.out | exact HE2.out)).mono ?_; rintro e wn ⟨rfl, stn⟩)
    )
  clear std
  clear d0 d1 d2 d3 d4 d5 g0 g1
  obtain ⟨⟨d0, d1, d2, d3, d4, d5⟩, g0, g1⟩ := HC2.out _ stn.ext
  obtain ⟨s, hs⟩ : ∃ s, sgn3 (gcdI x y) 0 = s := ⟨_, rfl⟩
  have HSG := Lib.hid hs
  by_cases h0 : gcdI x y = 0
  · obtain rfl : 0 = s := by rw [← hs, h0]; rfl
    obtain ⟨rfl, rfl⟩ := HZ.out h0
    clear hs h0
    go_wp2_with fail
    refine (sign_bag stn (by repeat (first | exact List.Mem.head _ | refine List.Mem.tail _ ?_)) _ HSG.out).mono ?_
    rintro e wn ⟨rfl, stn⟩
    clear d0 d1 d2 d3 d4 d5 g0 g1
    obtain ⟨⟨d0, d1, d2, d3, d4, d5⟩, g0, g1⟩ := HC2.out _ stn.ext
    go_wp2_with fail
    refine (sign_bag (x := 0) stn (by repeat (first | exact List.Mem.head _ | refine List.Mem.tail _ ?_)) 0 rfl).mono ?_
    rintro e wn ⟨rfl, stn⟩
    clear d0 d1 d2 d3 d4 d5 g0 g1
    obtain ⟨⟨d0, d1, d2, d3, d4, d5⟩, g0, g1⟩ := HC2.out _ stn.ext
    go_wp2_with fail
    refine (sign_bag (x := 0) stn (by repeat (first | exact List.Mem.head _ | refine List.Mem.tail _ ?_)) 0 rfl).mono ?_
    rintro e wn ⟨rfl, stn⟩
    clear d0 d1 d2 d3 d4 d5 g0 g1
    obtain ⟨⟨d0, d1, d2, d3, d4, d5⟩, g0, g1⟩ := HC2.out _ stn.ext
    go_wp2_with fail
    refine (HAV.out _ stn.ext).mono ?_
    rintro e wn ⟨rfl, hwn⟩
    have HF := Lib.hid (HWV.out.trans (stn.ext.trans hwn))
    go_wp2
    go_ret
    exact ⟨rfl, HF.out⟩
  · obtain rfl : 1 = s := by
      have := HP.out
      rw [← hs]; unfold sgn3
      rw [if_neg (by omega), if_pos (by omega)]
    have H0 := Lib.hid h0
    clear hs h0
    go_wp2_with fail
    refine (sign_bag stn (by repeat (first | exact List.Mem.head _ | refine List.Mem.tail _ ?_)) _ HSG.out).mono ?_
    rintro e wn ⟨rfl, stn⟩
    clear d0 d1 d2 d3 d4 d5 g0 g1
    obtain ⟨⟨d0, d1, d2, d3, d4, d5⟩, g0, g1⟩ := HC2.out _ stn.ext
    go_wp2_with fail
    refine (quo_bag (x := x) (y := gcdI x y) stn (by repeat (first | exact List.Mem.head _ | refine List.Mem.tail _ ?_)) (by repeat (first | exact List.Mem.head _ | refine List.Mem.tail _ ?_)) (by omega) H0.out (x / gcdI x y) HD.out.1).mono ?_
    rintro e w8 ⟨qn, qo, qk, qc, rfl, -, stn⟩
    go_upto_region 9 with fail
    obtain ⟨V8, hV8, hE8, -, -⟩ := box_new w8 qn qo qk qc
    rw [← hV8]
    clear hV8
    have stn := stn.step hE8
    generalize w8.heap.size = G8 at *
    clear hE8
    clear d0 d1 d2 d3 d4 d5 g0 g1
    obtain ⟨⟨d0, d1, d2, d3, d4, d5⟩, g0, g1⟩ := HC2.out _ stn.ext
    go_wp2_with fail
    refine (quo_bag (x := y) (y := gcdI x y) stn (by repeat (first | exact List.Mem.head _ | refine List.Mem.tail _ ?_)) (by repeat (first | exact List.Mem.head _ | refine List.Mem.tail _ ?_)) (by omega) H0.out (y / gcdI x y) HD.out.2).mono ?_
    rintro e w9 ⟨rn, ro, rk, rc, rfl, -, stn⟩
    go_upto_region 10 with fail
    obtain ⟨V9, hV9, hE9, -, -⟩ := box_new w9 rn ro rk rc
    rw [← hV9]
    clear hV9
    have stn := stn.step hE9
    generalize w9.heap.size = G9 at *
    clear hE9
    clear d0 d1 d2 d3 d4 d5 g0 g1
    obtain ⟨⟨d0, d1, d2, d3, d4, d5⟩, g0, g1⟩ := HC2.out _ stn.ext
    go_wp2_with fail
    refine (sign_bag stn (by repeat (first | exact List.Mem.head _ | refine List.Mem.tail _ ?_)) _ HSG.out).mono ?_
    rintro e wn ⟨rfl, stn⟩
    go_wp2_with fail
    refine (HAV.out _ stn.ext).mono ?_
    rintro e wn ⟨rfl, hwn⟩
    have HF := Lib.hid (HWV.out.trans (stn.ext.trans hwn))
    go_wp2
    go_ret
    exact ⟨rfl, HF.out⟩
end Go.Proofs.YtecaaklbhhjcjaaDoor
