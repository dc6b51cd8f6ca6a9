import Derived.Test.YtolghagbpnjpgaaDoorIMonoU44
import Derived.Test.YtolghagbpnjpgaaDoorIMonoU45
import Derived.Test.YtolghagbpnjpgaaDoorIMonoU46
import Derived.Test.YtolghagbpnjpgaaDoorIMonoU34
namespace Go.Proofs.YtolghagbpnjpgaaDoor
open Go.RowKit

def divLo (e f a b : Nat) : Nat := if containsF a b then 18442240474082181120 else plainF (cornLo fdivF e f a b)
def divHi (e f a b : Nat) : Nat := if containsF a b then 9218868437227405312 else plainF (cornHi fdivF e f a b)
theorem div_res {e f a b : Nat} (hz : Good e f) (hx : Good a b) : Good (divLo e f a b) (divHi e f a b) := by
  unfold divLo divHi
  cases h : containsF a b with
  | true => exact good_whole
  | false => exact (div_good hz hx h).1.plain
theorem div_sub {a b c d e f : Nat} (hx : Good a b) (hy : Good c d) (hz : Good e f) (h1 : frank c ≤ frank a) (h2 : frank b ≤ frank d) : subF (divLo e f a b) (divHi e f a b) (divLo e f c d) (divHi e f c d) = true := by
  cases h : containsF c d with
  | true =>
    have e1 : divLo e f c d = 18442240474082181120 := by unfold divLo; rw [h]; rfl
    have e2 : divHi e f c d = 9218868437227405312 := by unfold divHi; rw [h]; rfl
    rw [e1, e2]
    exact sub_whole (div_res hz hx)
  | false =>
    have h0 := sub_zero hx hy h1 h2 h
    unfold divLo divHi
    rw [h, h0]
    exact divs_narrow hx hy hz h1 h2 h
theorem idivG_any {e f a b : Nat} (hz : Good e f) (hx : Good a b) (w : World) :
    Calls Tryd.prog 12 #[.agg #[.int .u64 (e : Int), .int .u64 (f : Int)], .agg #[.int .u64 (a : Int), .int .u64 (b : Int)]] w fun r w' => r = .returned (.agg #[.int .u64 ((divLo e f a b : Nat) : Int), .int .u64 ((divHi e f a b : Nat) : Int)]) ∧ Ext w w' := by
  unfold divLo divHi
  cases h : containsF a b with
  | true => exact idiv_no e f a b hz.l1 hz.l2 hx.l1 hx.l2 (Or.inr (Or.inr h)) w
  | false =>
    refine idiv_full e f a b _ _ _ _ hz.l1 hz.l2 hx.l1 hx.l2 hz.valid hx.valid h ⟨rfl, rfl, ?_, ?_, rfl, rfl⟩ w
    all_goals
      intro x hx
      simp only [List.mem_cons, List.not_mem_nil, or_false] at hx
      rcases hx with rfl | rfl | rfl | rfl <;> exact fdiv_lt _
theorem imulG_any {e f a b : Nat} (hz : Good e f) (hx : Good a b) (w : World) :
    Calls Tryd.prog 11 #[.agg #[.int .u64 (e : Int), .int .u64 (f : Int)], .agg #[.int .u64 (a : Int), .int .u64 (b : Int)]] w fun r w' => r = .returned (.agg #[.int .u64 ((plainF (cornLo fmulF e f a b) : Nat) : Int), .int .u64 ((plainF (cornHi fmulF e f a b) : Nat) : Int)]) ∧ Ext w w' := by
  refine imul_full e f a b _ _ _ _ hz.l1 hz.l2 hx.l1 hx.l2 hz.valid hx.valid ⟨rfl, rfl, ?_, ?_, rfl, rfl⟩ w
  all_goals
    intro x hx
    simp only [List.mem_cons, List.not_mem_nil, or_false] at hx
    rcases hx with rfl | rfl | rfl | rfl <;> exact fmul_lt2 _ _ _
theorem retI {p q : Nat} {x y : Int} {f : FuncId} {args : Array Value} {w : World} (hx : (p : Int) = x) (hy : (q : Int) = y) (h : Calls Tryd.prog f args w fun r w' => r = .returned (.agg #[.int .u64 (p : Int), .int .u64 (q : Int)]) ∧ Ext w w') : Calls Tryd.prog f args w fun r w' => r = .returned (.agg #[.int .u64 x, .int .u64 y]) ∧ Ext w w' := by rw [← hx, ← hy]; exact h
theorem retS {p q p' q' : Nat} {x y x' y' : Int} (hx : (p : Int) = x) (hy : (q : Int) = y) (hx' : (p' : Int) = x') (hy' : (q' : Int) = y') (l1 : p < 18446744073709551616) (l2 : q < 18446744073709551616) (l3 : p' < 18446744073709551616) (l4 : q' < 18446744073709551616) (h : subF p q p' q' = true) (w : World) :
    Calls Tryd.prog 8 #[.agg #[.int .u64 x, .int .u64 y], .agg #[.int .u64 x', .int .u64 y']] w fun r w' => r = .returned (.bool true) ∧ Ext w w' := by
  rw [← hx, ← hy, ← hx', ← hy']; exact isubset_any p q p' q' l1 l2 l3 l4 true h w
theorem hull_res {a b e f : Nat} (hx : Good a b) (hz : Good e f) : Good (hullLo a e) (hullHi b f) := by
  obtain ⟨-, -, l3, l4⟩ := meet_lt hx.l1 hx.l2 hz.l1 hz.l2
  exact Good.of l3 l4 (hull_valid hx.l1 hx.l2 hz.l1 hz.l2 hx.valid hz.valid).1

set_option maxRecDepth 100000 in
set_option maxHeartbeats 32000000 in
theorem imonoL_any (a b c d e f : Nat) (ha : a < 18446744073709551616) (hb : b < 18446744073709551616) (hc : c < 18446744073709551616) (hd : d < 18446744073709551616) (he : e < 18446744073709551616) (hf : f < 18446744073709551616) (w : World) (hT : Table w) :
    Calls Tryd.prog 3 #[.agg #[.int .u64 (a : Int), .int .u64 (b : Int)], .agg #[.int .u64 (c : Int), .int .u64 (d : Int)], .agg #[.int .u64 (e : Int), .int .u64 (f : Int)]] w fun r w' => r = .returned (.bool true) ∧ Ext w w' := by
  obtain ⟨p, hp⟩ : ∃ p, subF a b c d = p := ⟨_, rfl⟩
  obtain ⟨q, hq⟩ : ∃ q, validF e f = q := ⟨_, rfl⟩
  have CS := Lib.hid (fun w hT => refSubset_any a b c d ha hb hc hd p hp w hT)
  have CV := Lib.hid (refValid_any e f he hf q hq)
  have HT := Lib.hid hT
  have CA := Lib.hid iawake_any
  go_enter Tryd.func3, Tryd.ntmps3
  go_upto_region 1 with fail
  obtain ⟨V, hW, hB, hx, hy, hz, hsz⟩ := ibox_three w a b c d e f
  rw [← hW]
  clear hW
  have HB := Lib.hid hB
  generalize w.heap.size = B at hx hy hz ⊢
  clear hB hsz hT
  have HC := Lib.hid (show ∀ wx, Ext V wx → (wx.cell? ⟨B, 0, none⟩ = some (.int .u64 (a : Int)) ∧ wx.cell? ⟨B, 1, none⟩ = some (.int .u64 (b : Int))) ∧ (wx.cell? ⟨B + 1, 0, none⟩ = some (.int .u64 (c : Int)) ∧ wx.cell? ⟨B + 1, 1, none⟩ = some (.int .u64 (d : Int))) ∧ (wx.cell? ⟨B + 1 + 1, 0, none⟩ = some (.int .u64 (e : Int)) ∧ wx.cell? ⟨B + 1 + 1, 1, none⟩ = some (.int .u64 (f : Int))) from fun wx h => ⟨⟨(hx.below h).c0, (hx.below h).c1⟩, ⟨(hy.below h).c0, (hy.below h).c1⟩, (hz.below h).c0, (hz.below h).c1⟩)
  clear hx hy hz
  have HTV := Lib.hid (show ∀ wx, Ext V wx → Table wx from fun wx h => (HT.out.below HB.out).below h)
  obtain ⟨⟨a0, a1⟩, ⟨a2, a3⟩, a4, a5⟩ := HC.out V (Ext.refl _)
  have st0 : Ext V V := Ext.refl _
  cases p with
  | false =>
    clear hp hq ha hb hc hd he hf
    go_wp2_with fail
    refine (CS.out _ (HTV.out _ st0)).mono ?_
    rintro r w1 ⟨rfl, hE⟩
    have s1 : Ext V w1 := Ext.trans st0 hE
    clear a0 a1 a2 a3 a4 a5 hE
    go_wp2_with fail
    refine (CA.out _).mono ?_
    rintro r w2 ⟨rfl, hE⟩
    have HF := Lib.hid (HB.out.trans (Ext.trans s1 hE))
    go_wp2
    go_ret
    exact ⟨rfl, HF.out⟩
  | true =>
    cases q with
    | false =>
      clear hp hq ha hb hc hd he hf
      go_wp2_with fail
      refine (CS.out _ (HTV.out _ st0)).mono ?_
      rintro r w1 ⟨rfl, hE⟩
      have s1 : Ext V w1 := Ext.trans st0 hE
      clear a0 a1 a2 a3 a4 a5 hE
      obtain ⟨⟨a0, a1⟩, ⟨a2, a3⟩, a4, a5⟩ := HC.out _ s1
      go_wp2_with fail
      refine (CV.out _).mono ?_
      rintro r w2 ⟨rfl, hE⟩
      have s2 : Ext V w2 := Ext.trans s1 hE
      clear a0 a1 a2 a3 a4 a5 hE
      go_wp2_with fail
      refine (CA.out _).mono ?_
      rintro r w3 ⟨rfl, hE⟩
      have HF := Lib.hid (HB.out.trans (Ext.trans s2 hE))
      go_wp2
      go_ret
      exact ⟨rfl, HF.out⟩
    | true =>
      have hsv := hp
      unfold subF at hsv
      simp only [Bool.and_eq_true] at hsv
      have vx : validF a b = true := hsv.1.1.1
      have vy : validF c d = true := hsv.1.1.2
      have hx := Good.of ha hb vx
      have hy := Good.of hc hd vy
      have hz := Good.of he hf hq
      rw [sub_rank vx vy] at hp
      simp only [Bool.and_eq_true, decide_eq_true_eq] at hp
      obtain ⟨h1, h2⟩ := hp
      obtain ⟨xl1, hxl1⟩ : ∃ r : Int, ((plainF (faddF a e 1) : Nat) : Int) = r := ⟨_, rfl⟩
      obtain ⟨xh1, hxh1⟩ : ∃ r : Int, ((plainF (faddF b f 2) : Nat) : Int) = r := ⟨_, rfl⟩
      have gx1 : Good (plainF (faddF a e 1)) (plainF (faddF b f 2)) := (add_good hx hz).plain
      have Kx1 := Lib.hid (fun w => retI hxl1 hxh1 (iadd_yes a b e f ha hb hz.l1 hz.l2 vx hz.valid w))
      obtain ⟨yl1, hyl1⟩ : ∃ r : Int, ((plainF (faddF c e 1) : Nat) : Int) = r := ⟨_, rfl⟩
      obtain ⟨yh1, hyh1⟩ : ∃ r : Int, ((plainF (faddF d f 2) : Nat) : Int) = r := ⟨_, rfl⟩
      have gy1 : Good (plainF (faddF c e 1)) (plainF (faddF d f 2)) := (add_good hy hz).plain
      have Ky1 := Lib.hid (fun w => retI hyl1 hyh1 (iadd_yes c d e f hc hd hz.l1 hz.l2 vy hz.valid w))
      have S1 := Lib.hid (fun w => retS hxl1 hxh1 hyl1 hyh1 gx1.l1 gx1.l2 gy1.l1 gy1.l2 (sums_narrow hx hy hz h1 h2) w)
      clear hxl1 hxh1 hyl1 hyh1 gx1 gy1
      obtain ⟨xl2, hxl2⟩ : ∃ r : Int, ((plainF (faddF e (plainF (fnegF b)) 1) : Nat) : Int) = r := ⟨_, rfl⟩
      obtain ⟨xh2, hxh2⟩ : ∃ r : Int, ((plainF (faddF f (plainF (fnegF a)) 2) : Nat) : Int) = r := ⟨_, rfl⟩
      have gx2 : Good (plainF (faddF e (plainF (fnegF b)) 1)) (plainF (faddF f (plainF (fnegF a)) 2)) := (add_good hz (neg_good hx).1).plain
      have Kx2 := Lib.hid (fun w => retI hxl2 hxh2 (isub_yes e f a b hz.l1 hz.l2 ha hb hz.valid vx w))
      obtain ⟨yl2, hyl2⟩ : ∃ r : Int, ((plainF (faddF e (plainF (fnegF d)) 1) : Nat) : Int) = r := ⟨_, rfl⟩
      obtain ⟨yh2, hyh2⟩ : ∃ r : Int, ((plainF (faddF f (plainF (fnegF c)) 2) : Nat) : Int) = r := ⟨_, rfl⟩
      have gy2 : Good (plainF (faddF e (plainF (fnegF d)) 1)) (plainF (faddF f (plainF (fnegF c)) 2)) := (add_good hz (neg_good hy).1).plain
      have Ky2 := Lib.hid (fun w => retI hyl2 hyh2 (isub_yes e f c d hz.l1 hz.l2 hc hd hz.valid vy w))
      have S2 := Lib.hid (fun w => retS hxl2 hxh2 hyl2 hyh2 gx2.l1 gx2.l2 gy2.l1 gy2.l2 (subs_narrow hx hy hz h1 h2) w)
      clear hxl2 hxh2 hyl2 hyh2 gx2 gy2
      obtain ⟨xl3, hxl3⟩ : ∃ r : Int, ((plainF (cornLo fmulF a b e f) : Nat) : Int) = r := ⟨_, rfl⟩
      obtain ⟨xh3, hxh3⟩ : ∃ r : Int, ((plainF (cornHi fmulF a b e f) : Nat) : Int) = r := ⟨_, rfl⟩
      have gx3 : Good (plainF (cornLo fmulF a b e f)) (plainF (cornHi fmulF a b e f)) := (mul_good hx hz).1.plain
      have Kx3 := Lib.hid (fun w => retI hxl3 hxh3 (imulG_any hx hz w))
      obtain ⟨yl3, hyl3⟩ : ∃ r : Int, ((plainF (cornLo fmulF c d e f) : Nat) : Int) = r := ⟨_, rfl⟩
      obtain ⟨yh3, hyh3⟩ : ∃ r : Int, ((plainF (cornHi fmulF c d e f) : Nat) : Int) = r := ⟨_, rfl⟩
      have gy3 : Good (plainF (cornLo fmulF c d e f)) (plainF (cornHi fmulF c d e f)) := (mul_good hy hz).1.plain
      have Ky3 := Lib.hid (fun w => retI hyl3 hyh3 (imulG_any hy hz w))
      have S3 := Lib.hid (fun w => retS hxl3 hxh3 hyl3 hyh3 gx3.l1 gx3.l2 gy3.l1 gy3.l2 (muls_narrow hx hy hz h1 h2) w)
      clear hxl3 hxh3 hyl3 hyh3 gx3 gy3
      obtain ⟨xl4, hxl4⟩ : ∃ r : Int, ((divLo e f a b : Nat) : Int) = r := ⟨_, rfl⟩
      obtain ⟨xh4, hxh4⟩ : ∃ r : Int, ((divHi e f a b : Nat) : Int) = r := ⟨_, rfl⟩
      have gx4 : Good (divLo e f a b) (divHi e f a b) := div_res hz hx
      have Kx4 := Lib.hid (fun w => retI hxl4 hxh4 (idivG_any hz hx w))
      obtain ⟨yl4, hyl4⟩ : ∃ r : Int, ((divLo e f c d : Nat) : Int) = r := ⟨_, rfl⟩
      obtain ⟨yh4, hyh4⟩ : ∃ r : Int, ((divHi e f c d : Nat) : Int) = r := ⟨_, rfl⟩
      have gy4 : Good (divLo e f c d) (divHi e f c d) := div_res hz hy
      have Ky4 := Lib.hid (fun w => retI hyl4 hyh4 (idivG_any hz hy w))
      have S4 := Lib.hid (fun w => retS hxl4 hxh4 hyl4 hyh4 gx4.l1 gx4.l2 gy4.l1 gy4.l2 (div_sub hx hy hz h1 h2) w)
      clear hxl4 hxh4 hyl4 hyh4 gx4 gy4
      obtain ⟨xl5, hxl5⟩ : ∃ r : Int, ((plainF (fmulF (migF a b) (migF a b) 1) : Nat) : Int) = r := ⟨_, rfl⟩
      obtain ⟨xh5, hxh5⟩ : ∃ r : Int, ((plainF (fmulF (magF a b) (magF a b) 2) : Nat) : Int) = r := ⟨_, rfl⟩
      have gx5 : Good (plainF (fmulF (migF a b) (migF a b) 1)) (plainF (fmulF (magF a b) (magF a b) 2)) := (sqr_good hx).plain
      have Kx5 := Lib.hid (fun w => retI hxl5 hxh5 (isqr_yes a b ha hb vx w))
      obtain ⟨yl5, hyl5⟩ : ∃ r : Int, ((plainF (fmulF (migF c d) (migF c d) 1) : Nat) : Int) = r := ⟨_, rfl⟩
      obtain ⟨yh5, hyh5⟩ : ∃ r : Int, ((plainF (fmulF (magF c d) (magF c d) 2) : Nat) : Int) = r := ⟨_, rfl⟩
      have gy5 : Good (plainF (fmulF (migF c d) (migF c d) 1)) (plainF (fmulF (magF c d) (magF c d) 2)) := (sqr_good hy).plain
      have Ky5 := Lib.hid (fun w => retI hyl5 hyh5 (isqr_yes c d hc hd vy w))
      have S5 := Lib.hid (fun w => retS hxl5 hxh5 hyl5 hyh5 gx5.l1 gx5.l2 gy5.l1 gy5.l2 (sqrs_narrow hx hy h1 h2) w)
      clear hxl5 hxh5 hyl5 hyh5 gx5 gy5
      obtain ⟨xl6, hxl6⟩ : ∃ r : Int, ((hullLo a e : Nat) : Int) = r := ⟨_, rfl⟩
      obtain ⟨xh6, hxh6⟩ : ∃ r : Int, ((hullHi b f : Nat) : Int) = r := ⟨_, rfl⟩
      have gx6 : Good (hullLo a e) (hullHi b f) := hull_res hx hz
      have Kx6 := Lib.hid (fun w => retI hxl6 hxh6 (ihull_yes a b e f ha hb hz.l1 hz.l2 vx hz.valid w))
      obtain ⟨yl6, hyl6⟩ : ∃ r : Int, ((hullLo c e : Nat) : Int) = r := ⟨_, rfl⟩
      obtain ⟨yh6, hyh6⟩ : ∃ r : Int, ((hullHi d f : Nat) : Int) = r := ⟨_, rfl⟩
      have gy6 : Good (hullLo c e) (hullHi d f) := hull_res hy hz
      have Ky6 := Lib.hid (fun w => retI hyl6 hyh6 (ihull_yes c d e f hc hd hz.l1 hz.l2 vy hz.valid w))
      have S6 := Lib.hid (fun w => retS hxl6 hxh6 hyl6 hyh6 gx6.l1 gx6.l2 gy6.l1 gy6.l2 (hulls_narrow hx hy hz h1 h2) w)
      clear hxl6 hxh6 hyl6 hyh6 gx6 gy6
      clear hx hy hz h1 h2 vx vy hsv hq ha hb hc hd he hf
      go_wp2_with fail
      refine (CS.out _ (HTV.out _ st0)).mono ?_
      rintro r w1 ⟨rfl, hE⟩
      have s1 : Ext V w1 := Ext.trans st0 hE
      clear a0 a1 a2 a3 a4 a5 hE
      obtain ⟨⟨a0, a1⟩, ⟨a2, a3⟩, a4, a5⟩ := HC.out _ s1
      go_wp2_with fail
      refine (CV.out _).mono ?_
      rintro r w2 ⟨rfl, hE⟩
      have s2 : Ext V w2 := Ext.trans s1 hE
      clear a0 a1 a2 a3 a4 a5 hE st0 s1
      obtain ⟨⟨a0, a1⟩, ⟨a2, a3⟩, a4, a5⟩ := HC.out _ s2
      have st : Ext V w2.drew := Ext.trans s2 ((Below.refl _ _).drew)
      go_upto_region 3 with fail
      go_region_held3 (fun wx => (wx.cell? ⟨B, 0, none⟩ = some (.int .u64 (a : Int)) ∧ wx.cell? ⟨B, 1, none⟩ = some (.int .u64 (b : Int))) ∧ (wx.cell? ⟨B + 1, 0, none⟩ = some (.int .u64 (c : Int)) ∧ wx.cell? ⟨B + 1, 1, none⟩ = some (.int .u64 (d : Int))) ∧ (wx.cell? ⟨B + 1 + 1, 0, none⟩ = some (.int .u64 (e : Int)) ∧ wx.cell? ⟨B + 1 + 1, 1, none⟩ = some (.int .u64 (f : Int))))
        (first | exact HC.out _ (by assumption))
        (first
          | (go_at_call 9; (with_reducible refine (Kx1.out _).mono ?_); rintro r wn ⟨rfl, hE⟩; have st : Ext V wn := Ext.trans (by assumption) hE; clear hE)
          | (go_at_call 9; (with_reducible refine (Ky1.out _).mono ?_); rintro r wn ⟨rfl, hE⟩; have st : Ext V wn := Ext.trans (by assumption) hE; clear hE)
          | (go_at_call 8; (with_reducible refine (S1.out _).mono ?_); rintro r wn ⟨rfl, hE⟩; have st : Ext V wn := Ext.trans (by assumption) hE; clear hE)
          | (go_at_call 10; (with_reducible refine (Kx2.out _).mono ?_); rintro r wn ⟨rfl, hE⟩; have st : Ext V wn := Ext.trans (by assumption) hE; clear hE)
          | (go_at_call 10; (with_reducible refine (Ky2.out _).mono ?_); rintro r wn ⟨rfl, hE⟩; have st : Ext V wn := Ext.trans (by assumption) hE; clear hE)
          | (go_at_call 8; (with_reducible refine (S2.out _).mono ?_); rintro r wn ⟨rfl, hE⟩; have st : Ext V wn := Ext.trans (by assumption) hE; clear hE)
          | (go_at_call 11; (with_reducible refine (Kx3.out _).mono ?_); rintro r wn ⟨rfl, hE⟩; have st : Ext V wn := Ext.trans (by assumption) hE; clear hE)
          | (go_at_call 11; (with_reducible refine (Ky3.out _).mono ?_); rintro r wn ⟨rfl, hE⟩; have st : Ext V wn := Ext.trans (by assumption) hE; clear hE)
          | (go_at_call 8; (with_reducible refine (S3.out _).mono ?_); rintro r wn ⟨rfl, hE⟩; have st : Ext V wn := Ext.trans (by assumption) hE; clear hE)
          | (go_at_call 12; (with_reducible refine (Kx4.out _).mono ?_); rintro r wn ⟨rfl, hE⟩; have st : Ext V wn := Ext.trans (by assumption) hE; clear hE)
          | (go_at_call 12; (with_reducible refine (Ky4.out _).mono ?_); rintro r wn ⟨rfl, hE⟩; have st : Ext V wn := Ext.trans (by assumption) hE; clear hE)
          | (go_at_call 8; (with_reducible refine (S4.out _).mono ?_); rintro r wn ⟨rfl, hE⟩; have st : Ext V wn := Ext.trans (by assumption) hE; clear hE)
          | (go_at_call 13; (with_reducible refine (Kx5.out _).mono ?_); rintro r wn ⟨rfl, hE⟩; have st : Ext V wn := Ext.trans (by assumption) hE; clear hE)
          | (go_at_call 13; (with_reducible refine (Ky5.out _).mono ?_); rintro r wn ⟨rfl, hE⟩; have st : Ext V wn := Ext.trans (by assumption) hE; clear hE)
          | (go_at_call 8; (with_reducible refine (S5.out _).mono ?_); rintro r wn ⟨rfl, hE⟩; have st : Ext V wn := Ext.trans (by assumption) hE; clear hE)
          | (go_at_call 14; (with_reducible refine (Kx6.out _).mono ?_); rintro r wn ⟨rfl, hE⟩; have st : Ext V wn := Ext.trans (by assumption) hE; clear hE)
          | (go_at_call 14; (with_reducible refine (Ky6.out _).mono ?_); rintro r wn ⟨rfl, hE⟩; have st : Ext V wn := Ext.trans (by assumption) hE; clear hE)
          | (go_at_call 8; (with_reducible refine (S6.out _).mono ?_); rintro r wn ⟨rfl, hE⟩; have st : Ext V wn := Ext.trans (by assumption) hE; clear hE)
          | (go_at_call 7; refine (CA.out _).mono ?_; rintro r wn ⟨rfl, hE⟩; have st : Ext V wn := Ext.trans (by assumption) hE; clear hE)
        )
      have HF := Lib.hid (HB.out.trans st)
      go_wp2
      go_ret
      exact ⟨rfl, HF.out⟩

theorem imonoL_int (a b c d e f : Int) (w : World) (ha : 0 ≤ a ∧ a < 18446744073709551616) (hb : 0 ≤ b ∧ b < 18446744073709551616) (hc : 0 ≤ c ∧ c < 18446744073709551616) (hd : 0 ≤ d ∧ d < 18446744073709551616) (he : 0 ≤ e ∧ e < 18446744073709551616) (hf : 0 ≤ f ∧ f < 18446744073709551616) (hT : Table w) :
    Calls Tryd.prog 3 #[.agg #[.int .u64 a, .int .u64 b], .agg #[.int .u64 c, .int .u64 d], .agg #[.int .u64 e, .int .u64 f]] w fun r w' => r = .returned (.bool true) ∧ Ext w w' := by
  have h := imonoL_any a.toNat b.toNat c.toNat d.toNat e.toNat f.toNat (by omega) (by omega) (by omega) (by omega) (by omega) (by omega) w hT
  rw [Int.toNat_of_nonneg ha.1, Int.toNat_of_nonneg hb.1, Int.toNat_of_nonneg hc.1, Int.toNat_of_nonneg hd.1, Int.toNat_of_nonneg he.1, Int.toNat_of_nonneg hf.1] at h
  exact h
end Go.Proofs.YtolghagbpnjpgaaDoor
