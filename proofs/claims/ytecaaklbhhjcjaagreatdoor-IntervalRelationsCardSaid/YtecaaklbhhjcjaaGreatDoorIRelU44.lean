import Derived.Test.YtecaaklbhhjcjaaGreatDoorIRelU37
import Derived.Test.YtecaaklbhhjcjaaGreatDoorIRelU41
import Derived.Test.YtecaaklbhhjcjaaGreatDoorIRelU43
namespace Go.Proofs.YtecaaklbhhjcjaaGreatDoor
open Go.RowKit

/-- short words for the values of a frame -/
abbrev ivT (a b : Nat) : Value := .agg #[.int .u64 (a : Int), .int .u64 (b : Int)]
abbrev nuT (a : Nat) : Value := .int .u64 (a : Int)
abbrev ptT (b o : Nat) : Value := .pointer (some ⟨b, o, none⟩)
set_option maxRecDepth 100000 in
set_option maxHeartbeats 16000000 in
theorem refInterior_any (a b c d : Nat) (ha : a < 18446744073709551616) (hb : b < 18446744073709551616) (hc : c < 18446744073709551616) (hd : d < 18446744073709551616) (z : Bool) (hz : interF a b c d = z) (w : World) (hT : Table w) :
    Calls Tryz.prog 44 #[.agg #[.int .u64 (a : Int), .int .u64 (b : Int)], .agg #[.int .u64 (c : Int), .int .u64 (d : Int)]] w fun e w' => e = .returned (.bool z) ∧ Ext w w' := by
  obtain ⟨p, hp⟩ : ∃ p, validF a b = p := ⟨_, rfl⟩
  obtain ⟨q, hq⟩ : ∃ q, validF c d = q := ⟨_, rfl⟩
  have CX := Lib.hid (refValid_any a b ha hb p hp)
  have CY := Lib.hid (refValid_any c d hc hd q hq)
  obtain ⟨l1, hl1⟩ : ∃ l, lessN (numI c) (numD c) (numI a) (numD a) = l := ⟨_, rfl⟩
  obtain ⟨l2, hl2⟩ : ∃ l, lessN (numI b) (numD b) (numI d) (numD d) = l := ⟨_, rfl⟩
  have hzz : p = true → q = true → ((decide (c = 18442240474082181120) || l1) && (decide (d = 9218868437227405312) || l2)) = z := by
    intro h1 h2
    rw [h1] at hp
    rw [h2] at hq
    have g := Good.of ha hb hp
    have g' := Good.of hc hd hq
    rw [← hz, ← hl1, ← hl2, num_less hc ha g'.n1 g.n1, num_less hb hd g.n2 g'.n2, inter_B hp hq, less_rank g'.n1 g.n1, less_rank g.n2 g'.n2]
  have hz1 : p = false → z = false := fun h => by rw [← hz]; unfold interF; rw [hp, h]; rfl
  have hz2 : p = true → q = false → z = false := fun h1 h2 => by rw [← hz]; unfold interF; rw [hp, hq, h1, h2]; rfl
  have NA := Lib.hid (fun w hT => refNumOf_any a ha _ _ rfl rfl w hT)
  have NB := Lib.hid (fun w hT => refNumOf_any b hb _ _ rfl rfl w hT)
  have NC := Lib.hid (fun w hT => refNumOf_any c hc _ _ rfl rfl w hT)
  have ND := Lib.hid (fun w hT => refNumOf_any d hd _ _ rfl rfl w hT)
  have L1 := Lib.hid (fun u v w hu hv hT => refLess_any u v (numI c) (numI a) (numD c) (numD a) l1 hl1 w hu hv hT)
  have L2 := Lib.hid (fun u v w hu hv hT => refLess_any u v (numI b) (numI d) (numD b) (numD d) l2 hl2 w hu hv hT)
  have HZ := Lib.hid hzz
  have HZ1 := Lib.hid hz1
  have HZ2 := Lib.hid hz2
  have HT := Lib.hid hT
  obtain ⟨cI, hcI⟩ : ∃ x, decide (c = 18442240474082181120) = x := ⟨_, rfl⟩
  obtain ⟨dI, hdI⟩ : ∃ x, decide (d = 9218868437227405312) = x := ⟨_, rfl⟩
  have c2 : ((c : Int) == 18442240474082181120) = cI := by
    rw [← hcI]
    by_cases h : c = 18442240474082181120
    · rw [decide_eq_true h, h]; rfl
    · rw [decide_eq_false h, beq_eq_false_iff_ne]; omega
  have d2 : ((d : Int) == 9218868437227405312) = dI := by
    rw [← hdI]
    by_cases h : d = 9218868437227405312
    · rw [decide_eq_true h, h]; rfl
    · rw [decide_eq_false h, beq_eq_false_iff_ne]; omega
  rw [hcI, hdI] at HZ
  clear hp hq hl1 hl2 hz hzz hz1 hz2 hT ha hb hc hd hcI hdI
  generalize numI a = ia at *
  generalize numI b = ib at *
  generalize numI c = ic at *
  generalize numI d = id at *
  generalize numD a = da at *
  generalize numD b = db at *
  generalize numD c = dc at *
  generalize numD d = dd at *
  go_enter Tryz.func44, Tryz.ntmps44
  go_upto_region 1 with fail
  obtain ⟨V, hW, hB, hx, hy, hsz⟩ := ibox_two w a b c d
  rw [← hW]
  clear hW
  have HB := Lib.hid hB
  generalize w.heap.size = B at hx hy ⊢
  clear hB hsz
  have HTV := Lib.hid (show ∀ wx, Ext V wx → Table wx from fun wx h => (HT.out.below HB.out).below h)
  have HC := Lib.hid (show ∀ wx, Ext V wx → (wx.cell? ⟨B, 0, none⟩ = some (.int .u64 (a : Int)) ∧ wx.cell? ⟨B, 1, none⟩ = some (.int .u64 (b : Int))) ∧ (wx.cell? ⟨B + 1, 0, none⟩ = some (.int .u64 (c : Int)) ∧ wx.cell? ⟨B + 1, 1, none⟩ = some (.int .u64 (d : Int))) from fun wx h => ⟨⟨(hx.below h).c0, (hx.below h).c1⟩, (hy.below h).c0, (hy.below h).c1⟩)
  clear hx hy
  obtain ⟨⟨a0, a1⟩, a2, a3⟩ := HC.out V (Ext.refl _)
  have st : Ext V V.drew := (Below.refl _ _).drew
  cases p with
  | false =>
    obtain rfl := HZ1.out rfl
    refine wp_region_any (by kernel_rfl) ?_
    change wpAny _ _ _ _ _ _ _ (World.drew _)
    refine wpAny_ready (rs := [0]) (by kernel_rfl) (by simp) ?_
    refine AllReady.cons rfl (fun K hK => ?_) AllReady.nil
    go_simp
    refine hK _ _ ?_
    clear hK K
    change wpAny _ _ _ _ _ _ { tmps := #[ivT a b, ivT c d, ptT B 0, ptT (B + 1) 0, .bool false, ivT a b, undef, undef, undef, undef, undef, undef, undef, undef, undef, undef, undef, undef, undef, undef, undef, undef, undef, undef, undef, undef, undef, undef, undef, undef, undef, undef, undef, undef, undef, undef, undef, undef, undef], defers := [] } _
    refine wpAny_ready (rs := [1]) (by kernel_rfl) (by simp) ?_
    refine AllReady.cons rfl (fun K hK => ?_) AllReady.nil
    go_simp
    go_wp2_with (go_at_call 16; (with_reducible refine (CX.out _).mono ?_); rintro r wn ⟨rfl, hE⟩; have st : Ext V wn := Ext.trans (by assumption) hE; clear hE; clear a0 a1 a2 a3; obtain ⟨⟨a0, a1⟩, a2, a3⟩ := HC.out _ st)
    first | (refine hK _ _ ?_; clear hK K) | skip
    change wpAny _ _ _ _ _ _ { tmps := #[ivT a b, ivT c d, ptT B 0, ptT (B + 1) 0, .bool false, ivT a b, .bool false, undef, undef, undef, undef, undef, undef, undef, undef, undef, undef, undef, undef, undef, undef, undef, undef, undef, undef, undef, undef, undef, undef, undef, undef, undef, undef, undef, undef, undef, undef, undef, undef], defers := [] } _
    refine wpAny_take (i := 2) (v := .bool false) rfl (by kernel_rfl) (by kernel_rfl) (by kernel_rfl) (fun _ _ _ h => h) (Or.inl ⟨by rfl, by intro w; first | (go_simp; done) | (go_simp; with_reducible rfl)⟩) ?_
    change wpAny _ _ _ _ _ _ { tmps := #[ivT a b, ivT c d, ptT B 0, ptT (B + 1) 0, .bool false, ivT a b, .bool false, .bool false, undef, undef, undef, undef, undef, undef, undef, undef, undef, undef, undef, undef, undef, undef, undef, undef, undef, undef, undef, undef, undef, undef, undef, undef, undef, undef, undef, undef, undef, undef, undef], defers := [] } _
    refine wpAny_off (i := 3) rfl (by kernel_rfl) (by kernel_rfl) (by kernel_rfl) (fun _ _ _ h => h) (by rfl) (by rfl) ?_
    refine wpAny_off (i := 4) rfl (by kernel_rfl) (by kernel_rfl) (by kernel_rfl) (fun _ _ _ h => h) (by rfl) (by rfl) ?_
    refine wpAny_take (i := 5) (v := .bool false) rfl (by kernel_rfl) (by kernel_rfl) (by kernel_rfl) (fun _ _ _ h => h) (Or.inl ⟨by rfl, by intro w; first | (go_simp; done) | (go_simp; with_reducible rfl)⟩) ?_
    refine wpAny_take (i := 6) (v := .bool false) rfl (by kernel_rfl) (by kernel_rfl) (by kernel_rfl) (fun _ _ _ h => h) (Or.inl ⟨by rfl, by intro w; first | (go_simp; done) | (go_simp; with_reducible rfl)⟩) ?_
    change wpAny _ _ _ _ _ _ { tmps := #[ivT a b, ivT c d, ptT B 0, ptT (B + 1) 0, .bool false, ivT a b, .bool false, .bool false, undef, undef, .bool false, .bool false, undef, undef, undef, undef, undef, undef, undef, undef, undef, undef, undef, undef, undef, undef, undef, undef, undef, undef, undef, undef, undef, undef, undef, undef, undef, undef, undef], defers := [] } _
    refine wpAny_off (i := 7) rfl (by kernel_rfl) (by kernel_rfl) (by kernel_rfl) (fun _ _ _ h => h) (by rfl) (by rfl) ?_
    refine wpAny_off (i := 8) rfl (by kernel_rfl) (by kernel_rfl) (by kernel_rfl) (fun _ _ _ h => h) (by rfl) (by rfl) ?_
    refine wpAny_off (i := 9) rfl (by kernel_rfl) (by kernel_rfl) (by kernel_rfl) (fun _ _ _ h => h) (by rfl) (by rfl) ?_
    refine wpAny_off (i := 10) rfl (by kernel_rfl) (by kernel_rfl) (by kernel_rfl) (fun _ _ _ h => h) (by rfl) (by rfl) ?_
    refine wpAny_off (i := 11) rfl (by kernel_rfl) (by kernel_rfl) (by kernel_rfl) (fun _ _ _ h => h) (by rfl) (by rfl) ?_
    refine wpAny_off (i := 12) rfl (by kernel_rfl) (by kernel_rfl) (by kernel_rfl) (fun _ _ _ h => h) (by rfl) (by rfl) ?_
    refine wpAny_off (i := 13) rfl (by kernel_rfl) (by kernel_rfl) (by kernel_rfl) (fun _ _ _ h => h) (by rfl) (by rfl) ?_
    refine wpAny_off (i := 14) rfl (by kernel_rfl) (by kernel_rfl) (by kernel_rfl) (fun _ _ _ h => h) (by rfl) (by rfl) ?_
    refine wpAny_off (i := 15) rfl (by kernel_rfl) (by kernel_rfl) (by kernel_rfl) (fun _ _ _ h => h) (by rfl) (by rfl) ?_
    refine wpAny_off (i := 16) rfl (by kernel_rfl) (by kernel_rfl) (by kernel_rfl) (fun _ _ _ h => h) (by rfl) (by rfl) ?_
    refine wpAny_off (i := 17) rfl (by kernel_rfl) (by kernel_rfl) (by kernel_rfl) (fun _ _ _ h => h) (by rfl) (by rfl) ?_
    refine wpAny_off (i := 18) rfl (by kernel_rfl) (by kernel_rfl) (by kernel_rfl) (fun _ _ _ h => h) (by rfl) (by rfl) ?_
    refine wpAny_take (i := 19) (v := .bool false) rfl (by kernel_rfl) (by kernel_rfl) (by kernel_rfl) (fun _ _ _ h => h) (Or.inl ⟨by rfl, by intro w; first | (go_simp; done) | (go_simp; with_reducible rfl)⟩) ?_
    refine wpAny_take (i := 20) (v := .bool false) rfl (by kernel_rfl) (by kernel_rfl) (by kernel_rfl) (fun _ _ _ h => h) (Or.inl ⟨by rfl, by intro w; first | (go_simp; done) | (go_simp; with_reducible rfl)⟩) ?_
    change wpAny _ _ _ _ _ _ { tmps := #[ivT a b, ivT c d, ptT B 0, ptT (B + 1) 0, .bool false, ivT a b, .bool false, .bool false, undef, undef, .bool false, .bool false, undef, undef, undef, undef, undef, undef, undef, undef, undef, undef, undef, undef, .bool false, .bool false, undef, undef, undef, undef, undef, undef, undef, undef, undef, undef, undef, undef, undef], defers := [] } _
    refine wpAny_off (i := 21) rfl (by kernel_rfl) (by kernel_rfl) (by kernel_rfl) (fun _ _ _ h => h) (by rfl) (by rfl) ?_
    refine wpAny_off (i := 22) rfl (by kernel_rfl) (by kernel_rfl) (by kernel_rfl) (fun _ _ _ h => h) (by rfl) (by rfl) ?_
    refine wpAny_off (i := 23) rfl (by kernel_rfl) (by kernel_rfl) (by kernel_rfl) (fun _ _ _ h => h) (by rfl) (by rfl) ?_
    refine wpAny_off (i := 24) rfl (by kernel_rfl) (by kernel_rfl) (by kernel_rfl) (fun _ _ _ h => h) (by rfl) (by rfl) ?_
    refine wpAny_off (i := 25) rfl (by kernel_rfl) (by kernel_rfl) (by kernel_rfl) (fun _ _ _ h => h) (by rfl) (by rfl) ?_
    refine wpAny_off (i := 26) rfl (by kernel_rfl) (by kernel_rfl) (by kernel_rfl) (fun _ _ _ h => h) (by rfl) (by rfl) ?_
    refine wpAny_off (i := 27) rfl (by kernel_rfl) (by kernel_rfl) (by kernel_rfl) (fun _ _ _ h => h) (by rfl) (by rfl) ?_
    refine wpAny_off (i := 28) rfl (by kernel_rfl) (by kernel_rfl) (by kernel_rfl) (fun _ _ _ h => h) (by rfl) (by rfl) ?_
    refine wpAny_off (i := 29) rfl (by kernel_rfl) (by kernel_rfl) (by kernel_rfl) (fun _ _ _ h => h) (by rfl) (by rfl) ?_
    refine wpAny_off (i := 30) rfl (by kernel_rfl) (by kernel_rfl) (by kernel_rfl) (fun _ _ _ h => h) (by rfl) (by rfl) ?_
    refine wpAny_off (i := 31) rfl (by kernel_rfl) (by kernel_rfl) (by kernel_rfl) (fun _ _ _ h => h) (by rfl) (by rfl) ?_
    refine wpAny_off (i := 32) rfl (by kernel_rfl) (by kernel_rfl) (by kernel_rfl) (fun _ _ _ h => h) (by rfl) (by rfl) ?_
    refine wpAny_take (i := 33) (v := .bool false) rfl (by kernel_rfl) (by kernel_rfl) (by kernel_rfl) (fun _ _ _ h => h) (Or.inl ⟨by rfl, by intro w; first | (go_simp; done) | (go_simp; with_reducible rfl)⟩) ?_
    change wpAny _ _ _ _ _ _ { tmps := #[ivT a b, ivT c d, ptT B 0, ptT (B + 1) 0, .bool false, ivT a b, .bool false, .bool false, undef, undef, .bool false, .bool false, undef, undef, undef, undef, undef, undef, undef, undef, undef, undef, undef, undef, .bool false, .bool false, undef, undef, undef, undef, undef, undef, undef, undef, undef, undef, undef, undef, .bool false], defers := [] } _
    refine wpAny_ready (rs := [34]) (by kernel_rfl) (by simp) ?_
    refine AllReady.cons rfl (fun K hK => ?_) AllReady.nil
    go_simp
    refine hK _ _ ?_
    clear hK K
    refine wpAny_done (by kernel_rfl) ?_ _
    have HF := Lib.hid (HB.out.trans st)
    go_wp2
    go_ret
    exact ⟨rfl, HF.out⟩
  | true =>
  cases q with
  | false =>
    obtain rfl := HZ2.out rfl rfl
    refine wp_region_any (by kernel_rfl) ?_
    change wpAny _ _ _ _ _ _ _ (World.drew _)
    refine wpAny_ready (rs := [0]) (by kernel_rfl) (by simp) ?_
    refine AllReady.cons rfl (fun K hK => ?_) AllReady.nil
    go_simp
    refine hK _ _ ?_
    clear hK K
    change wpAny _ _ _ _ _ _ { tmps := #[ivT a b, ivT c d, ptT B 0, ptT (B + 1) 0, .bool false, ivT a b, undef, undef, undef, undef, undef, undef, undef, undef, undef, undef, undef, undef, undef, undef, undef, undef, undef, undef, undef, undef, undef, undef, undef, undef, undef, undef, undef, undef, undef, undef, undef, undef, undef], defers := [] } _
    refine wpAny_ready (rs := [1]) (by kernel_rfl) (by simp) ?_
    refine AllReady.cons rfl (fun K hK => ?_) AllReady.nil
    go_simp
    go_wp2_with (go_at_call 16; (with_reducible refine (CX.out _).mono ?_); rintro r wn ⟨rfl, hE⟩; have st : Ext V wn := Ext.trans (by assumption) hE; clear hE; clear a0 a1 a2 a3; obtain ⟨⟨a0, a1⟩, a2, a3⟩ := HC.out _ st)
    first | (refine hK _ _ ?_; clear hK K) | skip
    change wpAny _ _ _ _ _ _ { tmps := #[ivT a b, ivT c d, ptT B 0, ptT (B + 1) 0, .bool false, ivT a b, .bool true, undef, undef, undef, undef, undef, undef, undef, undef, undef, undef, undef, undef, undef, undef, undef, undef, undef, undef, undef, undef, undef, undef, undef, undef, undef, undef, undef, undef, undef, undef, undef, undef], defers := [] } _
    refine wpAny_take (i := 2) (v := .bool true) rfl (by kernel_rfl) (by kernel_rfl) (by kernel_rfl) (fun _ _ _ h => h) (Or.inl ⟨by rfl, by intro w; first | (go_simp; done) | (go_simp; with_reducible rfl)⟩) ?_
    change wpAny _ _ _ _ _ _ { tmps := #[ivT a b, ivT c d, ptT B 0, ptT (B + 1) 0, .bool false, ivT a b, .bool true, .bool true, undef, undef, undef, undef, undef, undef, undef, undef, undef, undef, undef, undef, undef, undef, undef, undef, undef, undef, undef, undef, undef, undef, undef, undef, undef, undef, undef, undef, undef, undef, undef], defers := [] } _
    refine wpAny_ready (rs := [3]) (by kernel_rfl) (by simp) ?_
    refine AllReady.cons rfl (fun K hK => ?_) AllReady.nil
    go_simp
    refine hK _ _ ?_
    clear hK K
    change wpAny _ _ _ _ _ _ { tmps := #[ivT a b, ivT c d, ptT B 0, ptT (B + 1) 0, .bool false, ivT a b, .bool true, .bool true, ivT c d, undef, undef, undef, undef, undef, undef, undef, undef, undef, undef, undef, undef, undef, undef, undef, undef, undef, undef, undef, undef, undef, undef, undef, undef, undef, undef, undef, undef, undef, undef], defers := [] } _
    refine wpAny_ready (rs := [4]) (by kernel_rfl) (by simp) ?_
    refine AllReady.cons rfl (fun K hK => ?_) AllReady.nil
    go_simp
    go_wp2_with (go_at_call 16; (with_reducible refine (CY.out _).mono ?_); rintro r wn ⟨rfl, hE⟩; have st : Ext V wn := Ext.trans (by assumption) hE; clear hE; clear a0 a1 a2 a3; obtain ⟨⟨a0, a1⟩, a2, a3⟩ := HC.out _ st)
    first | (refine hK _ _ ?_; clear hK K) | skip
    change wpAny _ _ _ _ _ _ { tmps := #[ivT a b, ivT c d, ptT B 0, ptT (B + 1) 0, .bool false, ivT a b, .bool true, .bool true, ivT c d, .bool false, undef, undef, undef, undef, undef, undef, undef, undef, undef, undef, undef, undef, undef, undef, undef, undef, undef, undef, undef, undef, undef, undef, undef, undef, undef, undef, undef, undef, undef], defers := [] } _
    refine wpAny_take (i := 5) (v := .bool false) rfl (by kernel_rfl) (by kernel_rfl) (by kernel_rfl) (fun _ _ _ h => h) (Or.inl ⟨by rfl, by intro w; first | (go_simp; done) | (go_simp; with_reducible rfl)⟩) ?_
    refine wpAny_take (i := 6) (v := .bool false) rfl (by kernel_rfl) (by kernel_rfl) (by kernel_rfl) (fun _ _ _ h => h) (Or.inl ⟨by rfl, by intro w; first | (go_simp; done) | (go_simp; with_reducible rfl)⟩) ?_
    change wpAny _ _ _ _ _ _ { tmps := #[ivT a b, ivT c d, ptT B 0, ptT (B + 1) 0, .bool false, ivT a b, .bool true, .bool true, ivT c d, .bool false, .bool false, .bool false, undef, undef, undef, undef, undef, undef, undef, undef, undef, undef, undef, undef, undef, undef, undef, undef, undef, undef, undef, undef, undef, undef, undef, undef, undef, undef, undef], defers := [] } _
    refine wpAny_off (i := 7) rfl (by kernel_rfl) (by kernel_rfl) (by kernel_rfl) (fun _ _ _ h => h) (by rfl) (by rfl) ?_
    refine wpAny_off (i := 8) rfl (by kernel_rfl) (by kernel_rfl) (by kernel_rfl) (fun _ _ _ h => h) (by rfl) (by rfl) ?_
    refine wpAny_off (i := 9) rfl (by kernel_rfl) (by kernel_rfl) (by kernel_rfl) (fun _ _ _ h => h) (by rfl) (by rfl) ?_
    refine wpAny_off (i := 10) rfl (by kernel_rfl) (by kernel_rfl) (by kernel_rfl) (fun _ _ _ h => h) (by rfl) (by rfl) ?_
    refine wpAny_off (i := 11) rfl (by kernel_rfl) (by kernel_rfl) (by kernel_rfl) (fun _ _ _ h => h) (by rfl) (by rfl) ?_
    refine wpAny_off (i := 12) rfl (by kernel_rfl) (by kernel_rfl) (by kernel_rfl) (fun _ _ _ h => h) (by rfl) (by rfl) ?_
    refine wpAny_off (i := 13) rfl (by kernel_rfl) (by kernel_rfl) (by kernel_rfl) (fun _ _ _ h => h) (by rfl) (by rfl) ?_
    refine wpAny_off (i := 14) rfl (by kernel_rfl) (by kernel_rfl) (by kernel_rfl) (fun _ _ _ h => h) (by rfl) (by rfl) ?_
    refine wpAny_off (i := 15) rfl (by kernel_rfl) (by kernel_rfl) (by kernel_rfl) (fun _ _ _ h => h) (by rfl) (by rfl) ?_
    refine wpAny_off (i := 16) rfl (by kernel_rfl) (by kernel_rfl) (by kernel_rfl) (fun _ _ _ h => h) (by rfl) (by rfl) ?_
    refine wpAny_off (i := 17) rfl (by kernel_rfl) (by kernel_rfl) (by kernel_rfl) (fun _ _ _ h => h) (by rfl) (by rfl) ?_
    refine wpAny_off (i := 18) rfl (by kernel_rfl) (by kernel_rfl) (by kernel_rfl) (fun _ _ _ h => h) (by rfl) (by rfl) ?_
    refine wpAny_take (i := 19) (v := .bool false) rfl (by kernel_rfl) (by kernel_rfl) (by kernel_rfl) (fun _ _ _ h => h) (Or.inl ⟨by rfl, by intro w; first | (go_simp; done) | (go_simp; with_reducible rfl)⟩) ?_
    refine wpAny_take (i := 20) (v := .bool false) rfl (by kernel_rfl) (by kernel_rfl) (by kernel_rfl) (fun _ _ _ h => h) (Or.inl ⟨by rfl, by intro w; first | (go_simp; done) | (go_simp; with_reducible rfl)⟩) ?_
    change wpAny _ _ _ _ _ _ { tmps := #[ivT a b, ivT c d, ptT B 0, ptT (B + 1) 0, .bool false, ivT a b, .bool true, .bool true, ivT c d, .bool false, .bool false, .bool false, undef, undef, undef, undef, undef, undef, undef, undef, undef, undef, undef, undef, .bool false, .bool false, undef, undef, undef, undef, undef, undef, undef, undef, undef, undef, undef, undef, undef], defers := [] } _
    refine wpAny_off (i := 21) rfl (by kernel_rfl) (by kernel_rfl) (by kernel_rfl) (fun _ _ _ h => h) (by rfl) (by rfl) ?_
    refine wpAny_off (i := 22) rfl (by kernel_rfl) (by kernel_rfl) (by kernel_rfl) (fun _ _ _ h => h) (by rfl) (by rfl) ?_
    refine wpAny_off (i := 23) rfl (by kernel_rfl) (by kernel_rfl) (by kernel_rfl) (fun _ _ _ h => h) (by rfl) (by rfl) ?_
    refine wpAny_off (i := 24) rfl (by kernel_rfl) (by kernel_rfl) (by kernel_rfl) (fun _ _ _ h => h) (by rfl) (by rfl) ?_
    refine wpAny_off (i := 25) rfl (by kernel_rfl) (by kernel_rfl) (by kernel_rfl) (fun _ _ _ h => h) (by rfl) (by rfl) ?_
    refine wpAny_off (i := 26) rfl (by kernel_rfl) (by kernel_rfl) (by kernel_rfl) (fun _ _ _ h => h) (by rfl) (by rfl) ?_
    refine wpAny_off (i := 27) rfl (by kernel_rfl) (by kernel_rfl) (by kernel_rfl) (fun _ _ _ h => h) (by rfl) (by rfl) ?_
    refine wpAny_off (i := 28) rfl (by kernel_rfl) (by kernel_rfl) (by kernel_rfl) (fun _ _ _ h => h) (by rfl) (by rfl) ?_
    refine wpAny_off (i := 29) rfl (by kernel_rfl) (by kernel_rfl) (by kernel_rfl) (fun _ _ _ h => h) (by rfl) (by rfl) ?_
    refine wpAny_off (i := 30) rfl (by kernel_rfl) (by kernel_rfl) (by kernel_rfl) (fun _ _ _ h => h) (by rfl) (by rfl) ?_
    refine wpAny_off (i := 31) rfl (by kernel_rfl) (by kernel_rfl) (by kernel_rfl) (fun _ _ _ h => h) (by rfl) (by rfl) ?_
    refine wpAny_off (i := 32) rfl (by kernel_rfl) (by kernel_rfl) (by kernel_rfl) (fun _ _ _ h => h) (by rfl) (by rfl) ?_
    refine wpAny_take (i := 33) (v := .bool false) rfl (by kernel_rfl) (by kernel_rfl) (by kernel_rfl) (fun _ _ _ h => h) (Or.inl ⟨by rfl, by intro w; first | (go_simp; done) | (go_simp; with_reducible rfl)⟩) ?_
    change wpAny _ _ _ _ _ _ { tmps := #[ivT a b, ivT c d, ptT B 0, ptT (B + 1) 0, .bool false, ivT a b, .bool true, .bool true, ivT c d, .bool false, .bool false, .bool false, undef, undef, undef, undef, undef, undef, undef, undef, undef, undef, undef, undef, .bool false, .bool false, undef, undef, undef, undef, undef, undef, undef, undef, undef, undef, undef, undef, .bool false], defers := [] } _
    refine wpAny_ready (rs := [34]) (by kernel_rfl) (by simp) ?_
    refine AllReady.cons rfl (fun K hK => ?_) AllReady.nil
    go_simp
    refine hK _ _ ?_
    clear hK K
    refine wpAny_done (by kernel_rfl) ?_ _
    have HF := Lib.hid (HB.out.trans st)
    go_wp2
    go_ret
    exact ⟨rfl, HF.out⟩
  | true =>
  have HZ := Lib.hid (HZ.out rfl rfl)
  clear HZ1 HZ2
  cases cI with
  | true =>
    cases dI with
    | true =>
      obtain rfl : true = z := by rw [← HZ.out]; rfl
      refine wp_region_any (by kernel_rfl) ?_
      change wpAny _ _ _ _ _ _ _ (World.drew _)
      refine wpAny_ready (rs := [0]) (by kernel_rfl) (by simp) ?_
      refine AllReady.cons rfl (fun K hK => ?_) AllReady.nil
      go_simp
      refine hK _ _ ?_
      clear hK K
      change wpAny _ _ _ _ _ _ { tmps := #[ivT a b, ivT c d, ptT B 0, ptT (B + 1) 0, .bool false, ivT a b, undef, undef, undef, undef, undef, undef, undef, undef, undef, undef, undef, undef, undef, undef, undef, undef, undef, undef, undef, undef, undef, undef, undef, undef, undef, undef, undef, undef, undef, undef, undef, undef, undef], defers := [] } _
      refine wpAny_ready (rs := [1]) (by kernel_rfl) (by simp) ?_
      refine AllReady.cons rfl (fun K hK => ?_) AllReady.nil
      go_simp
      go_wp2_with (go_at_call 16; (with_reducible refine (CX.out _).mono ?_); rintro r wn ⟨rfl, hE⟩; have st : Ext V wn := Ext.trans (by assumption) hE; clear hE; clear a0 a1 a2 a3; obtain ⟨⟨a0, a1⟩, a2, a3⟩ := HC.out _ st)
      first | (refine hK _ _ ?_; clear hK K) | skip
      change wpAny _ _ _ _ _ _ { tmps := #[ivT a b, ivT c d, ptT B 0, ptT (B + 1) 0, .bool false, ivT a b, .bool true, undef, undef, undef, undef, undef, undef, undef, undef, undef, undef, undef, undef, undef, undef, undef, undef, undef, undef, undef, undef, undef, undef, undef, undef, undef, undef, undef, undef, undef, undef, undef, undef], defers := [] } _
      refine wpAny_take (i := 2) (v := .bool true) rfl (by kernel_rfl) (by kernel_rfl) (by kernel_rfl) (fun _ _ _ h => h) (Or.inl ⟨by rfl, by intro w; first | (go_simp; done) | (go_simp; with_reducible rfl)⟩) ?_
      change wpAny _ _ _ _ _ _ { tmps := #[ivT a b, ivT c d, ptT B 0, ptT (B + 1) 0, .bool false, ivT a b, .bool true, .bool true, undef, undef, undef, undef, undef, undef, undef, undef, undef, undef, undef, undef, undef, undef, undef, undef, undef, undef, undef, undef, undef, undef, undef, undef, undef, undef, undef, undef, undef, undef, undef], defers := [] } _
      refine wpAny_ready (rs := [3]) (by kernel_rfl) (by simp) ?_
      refine AllReady.cons rfl (fun K hK => ?_) AllReady.nil
      go_simp
      refine hK _ _ ?_
      clear hK K
      change wpAny _ _ _ _ _ _ { tmps := #[ivT a b, ivT c d, ptT B 0, ptT (B + 1) 0, .bool false, ivT a b, .bool true, .bool true, ivT c d, undef, undef, undef, undef, undef, undef, undef, undef, undef, undef, undef, undef, undef, undef, undef, undef, undef, undef, undef, undef, undef, undef, undef, undef, undef, undef, undef, undef, undef, undef], defers := [] } _
      refine wpAny_ready (rs := [4]) (by kernel_rfl) (by simp) ?_
      refine AllReady.cons rfl (fun K hK => ?_) AllReady.nil
      go_simp
      go_wp2_with (go_at_call 16; (with_reducible refine (CY.out _).mono ?_); rintro r wn ⟨rfl, hE⟩; have st : Ext V wn := Ext.trans (by assumption) hE; clear hE; clear a0 a1 a2 a3; obtain ⟨⟨a0, a1⟩, a2, a3⟩ := HC.out _ st)
      first | (refine hK _ _ ?_; clear hK K) | skip
      change wpAny _ _ _ _ _ _ { tmps := #[ivT a b, ivT c d, ptT B 0, ptT (B + 1) 0, .bool false, ivT a b, .bool true, .bool true, ivT c d, .bool true, undef, undef, undef, undef, undef, undef, undef, undef, undef, undef, undef, undef, undef, undef, undef, undef, undef, undef, undef, undef, undef, undef, undef, undef, undef, undef, undef, undef, undef], defers := [] } _
      refine wpAny_take (i := 5) (v := .bool true) rfl (by kernel_rfl) (by kernel_rfl) (by kernel_rfl) (fun _ _ _ h => h) (Or.inl ⟨by rfl, by intro w; first | (go_simp; done) | (go_simp; with_reducible rfl)⟩) ?_
      refine wpAny_take (i := 6) (v := .bool true) rfl (by kernel_rfl) (by kernel_rfl) (by kernel_rfl) (fun _ _ _ h => h) (Or.inl ⟨by rfl, by intro w; first | (go_simp; done) | (go_simp; with_reducible rfl)⟩) ?_
      refine wpAny_take (i := 7) (v := ptT (B + 1) 0) rfl (by kernel_rfl) (by kernel_rfl) (by kernel_rfl) (fun _ _ _ h => h) (Or.inl ⟨by rfl, by intro w; first | (go_simp; done) | (go_simp; with_reducible rfl)⟩) ?_
      change wpAny _ _ _ _ _ _ { tmps := #[ivT a b, ivT c d, ptT B 0, ptT (B + 1) 0, .bool false, ivT a b, .bool true, .bool true, ivT c d, .bool true, .bool true, .bool true, ptT (B + 1) 0, undef, undef, undef, undef, undef, undef, undef, undef, undef, undef, undef, undef, undef, undef, undef, undef, undef, undef, undef, undef, undef, undef, undef, undef, undef, undef], defers := [] } _
      refine wpAny_ready (rs := [8]) (by kernel_rfl) (by simp) ?_
      refine AllReady.cons rfl (fun K hK => ?_) AllReady.nil
      go_simp
      refine hK _ _ ?_
      clear hK K
      change wpAny _ _ _ _ _ _ { tmps := #[ivT a b, ivT c d, ptT B 0, ptT (B + 1) 0, .bool false, ivT a b, .bool true, .bool true, ivT c d, .bool true, .bool true, .bool true, ptT (B + 1) 0, nuT c, undef, undef, undef, undef, undef, undef, undef, undef, undef, undef, undef, undef, undef, undef, undef, undef, undef, undef, undef, undef, undef, undef, undef, undef, undef], defers := [] } _
      refine wpAny_take (i := 9) (v := .bool true) rfl (by kernel_rfl) (by kernel_rfl) (by kernel_rfl) (fun _ _ _ h => h) (Or.inl ⟨by rfl, by intro w; first | (go_simp; done) | (go_simp; with_reducible rfl)⟩) ?_
      refine wpAny_take (i := 10) (v := .bool true) rfl (by kernel_rfl) (by kernel_rfl) (by kernel_rfl) (fun _ _ _ h => h) (Or.inl ⟨by rfl, by intro w; first | (go_simp; done) | (go_simp; with_reducible rfl)⟩) ?_
      change wpAny _ _ _ _ _ _ { tmps := #[ivT a b, ivT c d, ptT B 0, ptT (B + 1) 0, .bool false, ivT a b, .bool true, .bool true, ivT c d, .bool true, .bool true, .bool true, ptT (B + 1) 0, nuT c, .bool true, .bool true, undef, undef, undef, undef, undef, undef, undef, undef, undef, undef, undef, undef, undef, undef, undef, undef, undef, undef, undef, undef, undef, undef, undef], defers := [] } _
      refine wpAny_off (i := 11) rfl (by kernel_rfl) (by kernel_rfl) (by kernel_rfl) (fun _ _ _ h => h) (by rfl) (by rfl) ?_
      refine wpAny_off (i := 12) rfl (by kernel_rfl) (by kernel_rfl) (by kernel_rfl) (fun _ _ _ h => h) (by rfl) (by rfl) ?_
      refine wpAny_off (i := 13) rfl (by kernel_rfl) (by kernel_rfl) (by kernel_rfl) (fun _ _ _ h => h) (by rfl) (by rfl) ?_
      refine wpAny_off (i := 14) rfl (by kernel_rfl) (by kernel_rfl) (by kernel_rfl) (fun _ _ _ h => h) (by rfl) (by rfl) ?_
      refine wpAny_off (i := 15) rfl (by kernel_rfl) (by kernel_rfl) (by kernel_rfl) (fun _ _ _ h => h) (by rfl) (by rfl) ?_
      refine wpAny_off (i := 16) rfl (by kernel_rfl) (by kernel_rfl) (by kernel_rfl) (fun _ _ _ h => h) (by rfl) (by rfl) ?_
      refine wpAny_off (i := 17) rfl (by kernel_rfl) (by kernel_rfl) (by kernel_rfl) (fun _ _ _ h => h) (by rfl) (by rfl) ?_
      refine wpAny_take (i := 18) (v := .bool true) rfl (by kernel_rfl) (by kernel_rfl) (by kernel_rfl) (fun _ _ _ h => h) (Or.inl ⟨by rfl, by intro w; first | (go_simp; done) | (go_simp; with_reducible rfl)⟩) ?_
      refine wpAny_take (i := 19) (v := .bool true) rfl (by kernel_rfl) (by kernel_rfl) (by kernel_rfl) (fun _ _ _ h => h) (Or.inl ⟨by rfl, by intro w; first | (go_simp; done) | (go_simp; with_reducible rfl)⟩) ?_
      refine wpAny_take (i := 20) (v := .bool true) rfl (by kernel_rfl) (by kernel_rfl) (by kernel_rfl) (fun _ _ _ h => h) (Or.inl ⟨by rfl, by intro w; first | (go_simp; done) | (go_simp; with_reducible rfl)⟩) ?_
      refine wpAny_take (i := 21) (v := ptT (B + 1) 1) rfl (by kernel_rfl) (by kernel_rfl) (by kernel_rfl) (fun _ _ _ h => h) (Or.inl ⟨by rfl, by intro w; first | (go_simp; done) | (go_simp; with_reducible rfl)⟩) ?_
      change wpAny _ _ _ _ _ _ { tmps := #[ivT a b, ivT c d, ptT B 0, ptT (B + 1) 0, .bool false, ivT a b, .bool true, .bool true, ivT c d, .bool true, .bool true, .bool true, ptT (B + 1) 0, nuT c, .bool true, .bool true, undef, undef, undef, undef, undef, undef, undef, .bool true, .bool true, .bool true, ptT (B + 1) 1, undef, undef, undef, undef, undef, undef, undef, undef, undef, undef, undef, undef], defers := [] } _
      refine wpAny_ready (rs := [22]) (by kernel_rfl) (by simp) ?_
      refine AllReady.cons rfl (fun K hK => ?_) AllReady.nil
      go_simp
      refine hK _ _ ?_
      clear hK K
      change wpAny _ _ _ _ _ _ { tmps := #[ivT a b, ivT c d, ptT B 0, ptT (B + 1) 0, .bool false, ivT a b, .bool true, .bool true, ivT c d, .bool true, .bool true, .bool true, ptT (B + 1) 0, nuT c, .bool true, .bool true, undef, undef, undef, undef, undef, undef, undef, .bool true, .bool true, .bool true, ptT (B + 1) 1, nuT d, undef, undef, undef, undef, undef, undef, undef, undef, undef, undef, undef], defers := [] } _
      refine wpAny_take (i := 23) (v := .bool true) rfl (by kernel_rfl) (by kernel_rfl) (by kernel_rfl) (fun _ _ _ h => h) (Or.inl ⟨by rfl, by intro w; first | (go_simp; done) | (go_simp; with_reducible rfl)⟩) ?_
      refine wpAny_take (i := 24) (v := .bool true) rfl (by kernel_rfl) (by kernel_rfl) (by kernel_rfl) (fun _ _ _ h => h) (Or.inl ⟨by rfl, by intro w; first | (go_simp; done) | (go_simp; with_reducible rfl)⟩) ?_
      change wpAny _ _ _ _ _ _ { tmps := #[ivT a b, ivT c d, ptT B 0, ptT (B + 1) 0, .bool false, ivT a b, .bool true, .bool true, ivT c d, .bool true, .bool true, .bool true, ptT (B + 1) 0, nuT c, .bool true, .bool true, undef, undef, undef, undef, undef, undef, undef, .bool true, .bool true, .bool true, ptT (B + 1) 1, nuT d, .bool true, .bool true, undef, undef, undef, undef, undef, undef, undef, undef, undef], defers := [] } _
      refine wpAny_off (i := 25) rfl (by kernel_rfl) (by kernel_rfl) (by kernel_rfl) (fun _ _ _ h => h) (by rfl) (by rfl) ?_
      refine wpAny_off (i := 26) rfl (by kernel_rfl) (by kernel_rfl) (by kernel_rfl) (fun _ _ _ h => h) (by rfl) (by rfl) ?_
      refine wpAny_off (i := 27) rfl (by kernel_rfl) (by kernel_rfl) (by kernel_rfl) (fun _ _ _ h => h) (by rfl) (by rfl) ?_
      refine wpAny_off (i := 28) rfl (by kernel_rfl) (by kernel_rfl) (by kernel_rfl) (fun _ _ _ h => h) (by rfl) (by rfl) ?_
      refine wpAny_off (i := 29) rfl (by kernel_rfl) (by kernel_rfl) (by kernel_rfl) (fun _ _ _ h => h) (by rfl) (by rfl) ?_
      refine wpAny_off (i := 30) rfl (by kernel_rfl) (by kernel_rfl) (by kernel_rfl) (fun _ _ _ h => h) (by rfl) (by rfl) ?_
      refine wpAny_off (i := 31) rfl (by kernel_rfl) (by kernel_rfl) (by kernel_rfl) (fun _ _ _ h => h) (by rfl) (by rfl) ?_
      refine wpAny_take (i := 32) (v := .bool true) rfl (by kernel_rfl) (by kernel_rfl) (by kernel_rfl) (fun _ _ _ h => h) (Or.inl ⟨by rfl, by intro w; first | (go_simp; done) | (go_simp; with_reducible rfl)⟩) ?_
      refine wpAny_take (i := 33) (v := .bool true) rfl (by kernel_rfl) (by kernel_rfl) (by kernel_rfl) (fun _ _ _ h => h) (Or.inl ⟨by rfl, by intro w; first | (go_simp; done) | (go_simp; with_reducible rfl)⟩) ?_
      change wpAny _ _ _ _ _ _ { tmps := #[ivT a b, ivT c d, ptT B 0, ptT (B + 1) 0, .bool false, ivT a b, .bool true, .bool true, ivT c d, .bool true, .bool true, .bool true, ptT (B + 1) 0, nuT c, .bool true, .bool true, undef, undef, undef, undef, undef, undef, undef, .bool true, .bool true, .bool true, ptT (B + 1) 1, nuT d, .bool true, .bool true, undef, undef, undef, undef, undef, undef, undef, .bool true, .bool true], defers := [] } _
      refine wpAny_ready (rs := [34]) (by kernel_rfl) (by simp) ?_
      refine AllReady.cons rfl (fun K hK => ?_) AllReady.nil
      go_simp
      refine hK _ _ ?_
      clear hK K
      refine wpAny_done (by kernel_rfl) ?_ _
      have HF := Lib.hid (HB.out.trans st)
      go_wp2
      go_ret
      exact ⟨rfl, HF.out⟩
    | false =>
      obtain rfl : l2 = z := by rw [← HZ.out]; simp
      refine wp_region_any (by kernel_rfl) ?_
      change wpAny _ _ _ _ _ _ _ (World.drew _)
      refine wpAny_ready (rs := [0]) (by kernel_rfl) (by simp) ?_
      refine AllReady.cons rfl (fun K hK => ?_) AllReady.nil
      go_simp
      refine hK _ _ ?_
      clear hK K
      change wpAny _ _ _ _ _ _ { tmps := #[ivT a b, ivT c d, ptT B 0, ptT (B + 1) 0, .bool false, ivT a b, undef, undef, undef, undef, undef, undef, undef, undef, undef, undef, undef, undef, undef, undef, undef, undef, undef, undef, undef, undef, undef, undef, undef, undef, undef, undef, undef, undef, undef, undef, undef, undef, undef], defers := [] } _
      refine wpAny_ready (rs := [1]) (by kernel_rfl) (by simp) ?_
      refine AllReady.cons rfl (fun K hK => ?_) AllReady.nil
      go_simp
      go_wp2_with (go_at_call 16; (with_reducible refine (CX.out _).mono ?_); rintro r wn ⟨rfl, hE⟩; have st : Ext V wn := Ext.trans (by assumption) hE; clear hE; clear a0 a1 a2 a3; obtain ⟨⟨a0, a1⟩, a2, a3⟩ := HC.out _ st)
      first | (refine hK _ _ ?_; clear hK K) | skip
      change wpAny _ _ _ _ _ _ { tmps := #[ivT a b, ivT c d, ptT B 0, ptT (B + 1) 0, .bool false, ivT a b, .bool true, undef, undef, undef, undef, undef, undef, undef, undef, undef, undef, undef, undef, undef, undef, undef, undef, undef, undef, undef, undef, undef, undef, undef, undef, undef, undef, undef, undef, undef, undef, undef, undef], defers := [] } _
      refine wpAny_take (i := 2) (v := .bool true) rfl (by kernel_rfl) (by kernel_rfl) (by kernel_rfl) (fun _ _ _ h => h) (Or.inl ⟨by rfl, by intro w; first | (go_simp; done) | (go_simp; with_reducible rfl)⟩) ?_
      change wpAny _ _ _ _ _ _ { tmps := #[ivT a b, ivT c d, ptT B 0, ptT (B + 1) 0, .bool false, ivT a b, .bool true, .bool true, undef, undef, undef, undef, undef, undef, undef, undef, undef, undef, undef, undef, undef, undef, undef, undef, undef, undef, undef, undef, undef, undef, undef, undef, undef, undef, undef, undef, undef, undef, undef], defers := [] } _
      refine wpAny_ready (rs := [3]) (by kernel_rfl) (by simp) ?_
      refine AllReady.cons rfl (fun K hK => ?_) AllReady.nil
      go_simp
      refine hK _ _ ?_
      clear hK K
      change wpAny _ _ _ _ _ _ { tmps := #[ivT a b, ivT c d, ptT B 0, ptT (B + 1) 0, .bool false, ivT a b, .bool true, .bool true, ivT c d, undef, undef, undef, undef, undef, undef, undef, undef, undef, undef, undef, undef, undef, undef, undef, undef, undef, undef, undef, undef, undef, undef, undef, undef, undef, undef, undef, undef, undef, undef], defers := [] } _
      refine wpAny_ready (rs := [4]) (by kernel_rfl) (by simp) ?_
      refine AllReady.cons rfl (fun K hK => ?_) AllReady.nil
      go_simp
      go_wp2_with (go_at_call 16; (with_reducible refine (CY.out _).mono ?_); rintro r wn ⟨rfl, hE⟩; have st : Ext V wn := Ext.trans (by assumption) hE; clear hE; clear a0 a1 a2 a3; obtain ⟨⟨a0, a1⟩, a2, a3⟩ := HC.out _ st)
      first | (refine hK _ _ ?_; clear hK K) | skip
      change wpAny _ _ _ _ _ _ { tmps := #[ivT a b, ivT c d, ptT B 0, ptT (B + 1) 0, .bool false, ivT a b, .bool true, .bool true, ivT c d, .bool true, undef, undef, undef, undef, undef, undef, undef, undef, undef, undef, undef, undef, undef, undef, undef, undef, undef, undef, undef, undef, undef, undef, undef, undef, undef, undef, undef, undef, undef], defers := [] } _
      refine wpAny_take (i := 5) (v := .bool true) rfl (by kernel_rfl) (by kernel_rfl) (by kernel_rfl) (fun _ _ _ h => h) (Or.inl ⟨by rfl, by intro w; first | (go_simp; done) | (go_simp; with_reducible rfl)⟩) ?_
      refine wpAny_take (i := 6) (v := .bool true) rfl (by kernel_rfl) (by kernel_rfl) (by kernel_rfl) (fun _ _ _ h => h) (Or.inl ⟨by rfl, by intro w; first | (go_simp; done) | (go_simp; with_reducible rfl)⟩) ?_
      refine wpAny_take (i := 7) (v := ptT (B + 1) 0) rfl (by kernel_rfl) (by kernel_rfl) (by kernel_rfl) (fun _ _ _ h => h) (Or.inl ⟨by rfl, by intro w; first | (go_simp; done) | (go_simp; with_reducible rfl)⟩) ?_
      change wpAny _ _ _ _ _ _ { tmps := #[ivT a b, ivT c d, ptT B 0, ptT (B + 1) 0, .bool false, ivT a b, .bool true, .bool true, ivT c d, .bool true, .bool true, .bool true, ptT (B + 1) 0, undef, undef, undef, undef, undef, undef, undef, undef, undef, undef, undef, undef, undef, undef, undef, undef, undef, undef, undef, undef, undef, undef, undef, undef, undef, undef], defers := [] } _
      refine wpAny_ready (rs := [8]) (by kernel_rfl) (by simp) ?_
      refine AllReady.cons rfl (fun K hK => ?_) AllReady.nil
      go_simp
      refine hK _ _ ?_
      clear hK K
      change wpAny _ _ _ _ _ _ { tmps := #[ivT a b, ivT c d, ptT B 0, ptT (B + 1) 0, .bool false, ivT a b, .bool true, .bool true, ivT c d, .bool true, .bool true, .bool true, ptT (B + 1) 0, nuT c, undef, undef, undef, undef, undef, undef, undef, undef, undef, undef, undef, undef, undef, undef, undef, undef, undef, undef, undef, undef, undef, undef, undef, undef, undef], defers := [] } _
      refine wpAny_take (i := 9) (v := .bool true) rfl (by kernel_rfl) (by kernel_rfl) (by kernel_rfl) (fun _ _ _ h => h) (Or.inl ⟨by rfl, by intro w; first | (go_simp; done) | (go_simp; with_reducible rfl)⟩) ?_
      refine wpAny_take (i := 10) (v := .bool true) rfl (by kernel_rfl) (by kernel_rfl) (by kernel_rfl) (fun _ _ _ h => h) (Or.inl ⟨by rfl, by intro w; first | (go_simp; done) | (go_simp; with_reducible rfl)⟩) ?_
      change wpAny _ _ _ _ _ _ { tmps := #[ivT a b, ivT c d, ptT B 0, ptT (B + 1) 0, .bool false, ivT a b, .bool true, .bool true, ivT c d, .bool true, .bool true, .bool true, ptT (B + 1) 0, nuT c, .bool true, .bool true, undef, undef, undef, undef, undef, undef, undef, undef, undef, undef, undef, undef, undef, undef, undef, undef, undef, undef, undef, undef, undef, undef, undef], defers := [] } _
      refine wpAny_off (i := 11) rfl (by kernel_rfl) (by kernel_rfl) (by kernel_rfl) (fun _ _ _ h => h) (by rfl) (by rfl) ?_
      refine wpAny_off (i := 12) rfl (by kernel_rfl) (by kernel_rfl) (by kernel_rfl) (fun _ _ _ h => h) (by rfl) (by rfl) ?_
      refine wpAny_off (i := 13) rfl (by kernel_rfl) (by kernel_rfl) (by kernel_rfl) (fun _ _ _ h => h) (by rfl) (by rfl) ?_
      refine wpAny_off (i := 14) rfl (by kernel_rfl) (by kernel_rfl) (by kernel_rfl) (fun _ _ _ h => h) (by rfl) (by rfl) ?_
      refine wpAny_off (i := 15) rfl (by kernel_rfl) (by kernel_rfl) (by kernel_rfl) (fun _ _ _ h => h) (by rfl) (by rfl) ?_
      refine wpAny_off (i := 16) rfl (by kernel_rfl) (by kernel_rfl) (by kernel_rfl) (fun _ _ _ h => h) (by rfl) (by rfl) ?_
      refine wpAny_off (i := 17) rfl (by kernel_rfl) (by kernel_rfl) (by kernel_rfl) (fun _ _ _ h => h) (by rfl) (by rfl) ?_
      refine wpAny_take (i := 18) (v := .bool true) rfl (by kernel_rfl) (by kernel_rfl) (by kernel_rfl) (fun _ _ _ h => h) (Or.inl ⟨by rfl, by intro w; first | (go_simp; done) | (go_simp; with_reducible rfl)⟩) ?_
      refine wpAny_take (i := 19) (v := .bool true) rfl (by kernel_rfl) (by kernel_rfl) (by kernel_rfl) (fun _ _ _ h => h) (Or.inl ⟨by rfl, by intro w; first | (go_simp; done) | (go_simp; with_reducible rfl)⟩) ?_
      refine wpAny_take (i := 20) (v := .bool true) rfl (by kernel_rfl) (by kernel_rfl) (by kernel_rfl) (fun _ _ _ h => h) (Or.inl ⟨by rfl, by intro w; first | (go_simp; done) | (go_simp; with_reducible rfl)⟩) ?_
      refine wpAny_take (i := 21) (v := ptT (B + 1) 1) rfl (by kernel_rfl) (by kernel_rfl) (by kernel_rfl) (fun _ _ _ h => h) (Or.inl ⟨by rfl, by intro w; first | (go_simp; done) | (go_simp; with_reducible rfl)⟩) ?_
      change wpAny _ _ _ _ _ _ { tmps := #[ivT a b, ivT c d, ptT B 0, ptT (B + 1) 0, .bool false, ivT a b, .bool true, .bool true, ivT c d, .bool true, .bool true, .bool true, ptT (B + 1) 0, nuT c, .bool true, .bool true, undef, undef, undef, undef, undef, undef, undef, .bool true, .bool true, .bool true, ptT (B + 1) 1, undef, undef, undef, undef, undef, undef, undef, undef, undef, undef, undef, undef], defers := [] } _
      refine wpAny_ready (rs := [22]) (by kernel_rfl) (by simp) ?_
      refine AllReady.cons rfl (fun K hK => ?_) AllReady.nil
      go_simp
      refine hK _ _ ?_
      clear hK K
      change wpAny _ _ _ _ _ _ { tmps := #[ivT a b, ivT c d, ptT B 0, ptT (B + 1) 0, .bool false, ivT a b, .bool true, .bool true, ivT c d, .bool true, .bool true, .bool true, ptT (B + 1) 0, nuT c, .bool true, .bool true, undef, undef, undef, undef, undef, undef, undef, .bool true, .bool true, .bool true, ptT (B + 1) 1, nuT d, undef, undef, undef, undef, undef, undef, undef, undef, undef, undef, undef], defers := [] } _
      refine wpAny_take (i := 23) (v := .bool false) rfl (by kernel_rfl) (by kernel_rfl) (by kernel_rfl) (fun _ _ _ h => h) (Or.inl ⟨by rfl, by intro w; first | (go_simp; done) | (go_simp; with_reducible rfl)⟩) ?_
      refine wpAny_take (i := 24) (v := .bool false) rfl (by kernel_rfl) (by kernel_rfl) (by kernel_rfl) (fun _ _ _ h => h) (Or.inl ⟨by rfl, by intro w; first | (go_simp; done) | (go_simp; with_reducible rfl)⟩) ?_
      refine wpAny_take (i := 25) (v := ptT B 1) rfl (by kernel_rfl) (by kernel_rfl) (by kernel_rfl) (fun _ _ _ h => h) (Or.inl ⟨by rfl, by intro w; first | (go_simp; done) | (go_simp; with_reducible rfl)⟩) ?_
      refine wpAny_take (i := 28) (v := ptT (B + 1) 1) rfl (by kernel_rfl) (by kernel_rfl) (by kernel_rfl) (fun _ _ _ h => h) (Or.inl ⟨by rfl, by intro w; first | (go_simp; done) | (go_simp; with_reducible rfl)⟩) ?_
      change wpAny _ _ _ _ _ _ { tmps := #[ivT a b, ivT c d, ptT B 0, ptT (B + 1) 0, .bool false, ivT a b, .bool true, .bool true, ivT c d, .bool true, .bool true, .bool true, ptT (B + 1) 0, nuT c, .bool true, .bool true, undef, undef, undef, undef, undef, undef, undef, .bool true, .bool true, .bool true, ptT (B + 1) 1, nuT d, .bool false, .bool false, ptT B 1, undef, undef, ptT (B + 1) 1, undef, undef, undef, undef, undef], defers := [] } _
      refine wpAny_ready (rs := [26, 29]) (by kernel_rfl) (by simp) ?_
      refine AllReady.cons rfl (fun K hK => ?_) (AllReady.cons rfl (fun K hK => ?_) AllReady.nil)
      · go_simp
        refine hK _ _ ?_
        clear hK K
        change wpAny _ _ _ _ _ _ { tmps := #[ivT a b, ivT c d, ptT B 0, ptT (B + 1) 0, .bool false, ivT a b, .bool true, .bool true, ivT c d, .bool true, .bool true, .bool true, ptT (B + 1) 0, nuT c, .bool true, .bool true, undef, undef, undef, undef, undef, undef, undef, .bool true, .bool true, .bool true, ptT (B + 1) 1, nuT d, .bool false, .bool false, ptT B 1, nuT b, undef, ptT (B + 1) 1, undef, undef, undef, undef, undef], defers := [] } _
        refine wpAny_ready (rs := [27, 29]) (by kernel_rfl) (by simp) ?_
        refine AllReady.cons rfl (fun K hK => ?_) (AllReady.cons rfl (fun K hK => ?_) AllReady.nil)
        · go_simp
          go_wp2_with (go_at_call 85; (with_reducible refine (NB.out _ (HTV.out _ (by assumption))).mono ?_); rintro r wn ⟨vb, rfl, hvb, hE⟩; have st : Ext V wn := Ext.trans (by assumption) hE; clear hE; clear a0 a1 a2 a3; obtain ⟨⟨a0, a1⟩, a2, a3⟩ := HC.out _ st)
          first | (refine hK _ _ ?_; clear hK K) | skip
          change wpAny _ _ _ _ _ _ { tmps := #[ivT a b, ivT c d, ptT B 0, ptT (B + 1) 0, .bool false, ivT a b, .bool true, .bool true, ivT c d, .bool true, .bool true, .bool true, ptT (B + 1) 0, nuT c, .bool true, .bool true, undef, undef, undef, undef, undef, undef, undef, .bool true, .bool true, .bool true, ptT (B + 1) 1, nuT d, .bool false, .bool false, ptT B 1, nuT b, vb, ptT (B + 1) 1, undef, undef, undef, undef, undef], defers := [] } _
          refine wpAny_ready (rs := [29]) (by kernel_rfl) (by simp) ?_
          refine AllReady.cons rfl (fun K hK => ?_) AllReady.nil
          go_simp
          refine hK _ _ ?_
          clear hK K
          change wpAny _ _ _ _ _ _ { tmps := #[ivT a b, ivT c d, ptT B 0, ptT (B + 1) 0, .bool false, ivT a b, .bool true, .bool true, ivT c d, .bool true, .bool true, .bool true, ptT (B + 1) 0, nuT c, .bool true, .bool true, undef, undef, undef, undef, undef, undef, undef, .bool true, .bool true, .bool true, ptT (B + 1) 1, nuT d, .bool false, .bool false, ptT B 1, nuT b, vb, ptT (B + 1) 1, nuT d, undef, undef, undef, undef], defers := [] } _
          refine wpAny_ready (rs := [30]) (by kernel_rfl) (by simp) ?_
          refine AllReady.cons rfl (fun K hK => ?_) AllReady.nil
          go_simp
          go_wp2_with (go_at_call 85; (with_reducible refine (ND.out _ (HTV.out _ (by assumption))).mono ?_); rintro r wn ⟨vd, rfl, hvd, hE⟩; have st : Ext V wn := Ext.trans (by assumption) hE; have hvb := hvb.ext hE; clear hE; clear a0 a1 a2 a3; obtain ⟨⟨a0, a1⟩, a2, a3⟩ := HC.out _ st)
          first | (refine hK _ _ ?_; clear hK K) | skip
          change wpAny _ _ _ _ _ _ { tmps := #[ivT a b, ivT c d, ptT B 0, ptT (B + 1) 0, .bool false, ivT a b, .bool true, .bool true, ivT c d, .bool true, .bool true, .bool true, ptT (B + 1) 0, nuT c, .bool true, .bool true, undef, undef, undef, undef, undef, undef, undef, .bool true, .bool true, .bool true, ptT (B + 1) 1, nuT d, .bool false, .bool false, ptT B 1, nuT b, vb, ptT (B + 1) 1, nuT d, vd, undef, undef, undef], defers := [] } _
          refine wpAny_ready (rs := [31]) (by kernel_rfl) (by simp) ?_
          refine AllReady.cons rfl (fun K hK => ?_) AllReady.nil
          go_simp
          go_wp2_with (go_at_call 99; (refine (L2.out _ _ _ (by exact hvb) (by exact hvd) (HTV.out _ (by assumption))).mono ?_); rintro r wn ⟨rfl, hE⟩; have st : Ext V wn := Ext.trans (by assumption) hE; clear hE; clear a0 a1 a2 a3; obtain ⟨⟨a0, a1⟩, a2, a3⟩ := HC.out _ st)
          first | (refine hK _ _ ?_; clear hK K) | skip
          change wpAny _ _ _ _ _ _ { tmps := #[ivT a b, ivT c d, ptT B 0, ptT (B + 1) 0, .bool false, ivT a b, .bool true, .bool true, ivT c d, .bool true, .bool true, .bool true, ptT (B + 1) 0, nuT c, .bool true, .bool true, undef, undef, undef, undef, undef, undef, undef, .bool true, .bool true, .bool true, ptT (B + 1) 1, nuT d, .bool false, .bool false, ptT B 1, nuT b, vb, ptT (B + 1) 1, nuT d, vd, .bool l2, undef, undef], defers := [] } _
          refine wpAny_take (i := 32) (v := .bool l2) rfl (by kernel_rfl) (by kernel_rfl) (by kernel_rfl) (fun _ _ _ h => h) (Or.inl ⟨by rfl, by intro w; first | (go_simp; done) | (go_simp; with_reducible rfl)⟩) ?_
          refine wpAny_take (i := 33) (v := .bool l2) rfl (by kernel_rfl) (by kernel_rfl) (by kernel_rfl) (fun _ _ _ h => h) (Or.inl ⟨by rfl, by intro w; first | (go_simp; done) | (go_simp; with_reducible rfl)⟩) ?_
          change wpAny _ _ _ _ _ _ { tmps := #[ivT a b, ivT c d, ptT B 0, ptT (B + 1) 0, .bool false, ivT a b, .bool true, .bool true, ivT c d, .bool true, .bool true, .bool true, ptT (B + 1) 0, nuT c, .bool true, .bool true, undef, undef, undef, undef, undef, undef, undef, .bool true, .bool true, .bool true, ptT (B + 1) 1, nuT d, .bool false, .bool false, ptT B 1, nuT b, vb, ptT (B + 1) 1, nuT d, vd, .bool l2, .bool l2, .bool l2], defers := [] } _
          refine wpAny_ready (rs := [34]) (by kernel_rfl) (by simp) ?_
          refine AllReady.cons rfl (fun K hK => ?_) AllReady.nil
          go_simp
          refine hK _ _ ?_
          clear hK K
          refine wpAny_done (by kernel_rfl) ?_ _
          have HF := Lib.hid (HB.out.trans st)
          go_wp2
          go_ret
          exact ⟨rfl, HF.out⟩
        · go_simp
          refine hK _ _ ?_
          clear hK K
          change wpAny _ _ _ _ _ _ { tmps := #[ivT a b, ivT c d, ptT B 0, ptT (B + 1) 0, .bool false, ivT a b, .bool true, .bool true, ivT c d, .bool true, .bool true, .bool true, ptT (B + 1) 0, nuT c, .bool true, .bool true, undef, undef, undef, undef, undef, undef, undef, .bool true, .bool true, .bool true, ptT (B + 1) 1, nuT d, .bool false, .bool false, ptT B 1, nuT b, undef, ptT (B + 1) 1, nuT d, undef, undef, undef, undef], defers := [] } _
          refine wpAny_ready (rs := [27]) (by kernel_rfl) (by simp) ?_
          refine AllReady.cons rfl (fun K hK => ?_) AllReady.nil
          go_simp
          go_wp2_with (go_at_call 85; (with_reducible refine (NB.out _ (HTV.out _ (by assumption))).mono ?_); rintro r wn ⟨vb, rfl, hvb, hE⟩; have st : Ext V wn := Ext.trans (by assumption) hE; clear hE; clear a0 a1 a2 a3; obtain ⟨⟨a0, a1⟩, a2, a3⟩ := HC.out _ st)
          first | (refine hK _ _ ?_; clear hK K) | skip
          change wpAny _ _ _ _ _ _ { tmps := #[ivT a b, ivT c d, ptT B 0, ptT (B + 1) 0, .bool false, ivT a b, .bool true, .bool true, ivT c d, .bool true, .bool true, .bool true, ptT (B + 1) 0, nuT c, .bool true, .bool true, undef, undef, undef, undef, undef, undef, undef, .bool true, .bool true, .bool true, ptT (B + 1) 1, nuT d, .bool false, .bool false, ptT B 1, nuT b, vb, ptT (B + 1) 1, nuT d, undef, undef, undef, undef], defers := [] } _
          refine wpAny_ready (rs := [30]) (by kernel_rfl) (by simp) ?_
          refine AllReady.cons rfl (fun K hK => ?_) AllReady.nil
          go_simp
          go_wp2_with (go_at_call 85; (with_reducible refine (ND.out _ (HTV.out _ (by assumption))).mono ?_); rintro r wn ⟨vd, rfl, hvd, hE⟩; have st : Ext V wn := Ext.trans (by assumption) hE; have hvb := hvb.ext hE; clear hE; clear a0 a1 a2 a3; obtain ⟨⟨a0, a1⟩, a2, a3⟩ := HC.out _ st)
          first | (refine hK _ _ ?_; clear hK K) | skip
          change wpAny _ _ _ _ _ _ { tmps := #[ivT a b, ivT c d, ptT B 0, ptT (B + 1) 0, .bool false, ivT a b, .bool true, .bool true, ivT c d, .bool true, .bool true, .bool true, ptT (B + 1) 0, nuT c, .bool true, .bool true, undef, undef, undef, undef, undef, undef, undef, .bool true, .bool true, .bool true, ptT (B + 1) 1, nuT d, .bool false, .bool false, ptT B 1, nuT b, vb, ptT (B + 1) 1, nuT d, vd, undef, undef, undef], defers := [] } _
          refine wpAny_ready (rs := [31]) (by kernel_rfl) (by simp) ?_
          refine AllReady.cons rfl (fun K hK => ?_) AllReady.nil
          go_simp
          go_wp2_with (go_at_call 99; (refine (L2.out _ _ _ (by exact hvb) (by exact hvd) (HTV.out _ (by assumption))).mono ?_); rintro r wn ⟨rfl, hE⟩; have st : Ext V wn := Ext.trans (by assumption) hE; clear hE; clear a0 a1 a2 a3; obtain ⟨⟨a0, a1⟩, a2, a3⟩ := HC.out _ st)
          first | (refine hK _ _ ?_; clear hK K) | skip
          change wpAny _ _ _ _ _ _ { tmps := #[ivT a b, ivT c d, ptT B 0, ptT (B + 1) 0, .bool false, ivT a b, .bool true, .bool true, ivT c d, .bool true, .bool true, .bool true, ptT (B + 1) 0, nuT c, .bool true, .bool true, undef, undef, undef, undef, undef, undef, undef, .bool true, .bool true, .bool true, ptT (B + 1) 1, nuT d, .bool false, .bool false, ptT B 1, nuT b, vb, ptT (B + 1) 1, nuT d, vd, .bool l2, undef, undef], defers := [] } _
          refine wpAny_take (i := 32) (v := .bool l2) rfl (by kernel_rfl) (by kernel_rfl) (by kernel_rfl) (fun _ _ _ h => h) (Or.inl ⟨by rfl, by intro w; first | (go_simp; done) | (go_simp; with_reducible rfl)⟩) ?_
          refine wpAny_take (i := 33) (v := .bool l2) rfl (by kernel_rfl) (by kernel_rfl) (by kernel_rfl) (fun _ _ _ h => h) (Or.inl ⟨by rfl, by intro w; first | (go_simp; done) | (go_simp; with_reducible rfl)⟩) ?_
          change wpAny _ _ _ _ _ _ { tmps := #[ivT a b, ivT c d, ptT B 0, ptT (B + 1) 0, .bool false, ivT a b, .bool true, .bool true, ivT c d, .bool true, .bool true, .bool true, ptT (B + 1) 0, nuT c, .bool true, .bool true, undef, undef, undef, undef, undef, undef, undef, .bool true, .bool true, .bool true, ptT (B + 1) 1, nuT d, .bool false, .bool false, ptT B 1, nuT b, vb, ptT (B + 1) 1, nuT d, vd, .bool l2, .bool l2, .bool l2], defers := [] } _
          refine wpAny_ready (rs := [34]) (by kernel_rfl) (by simp) ?_
          refine AllReady.cons rfl (fun K hK => ?_) AllReady.nil
          go_simp
          refine hK _ _ ?_
          clear hK K
          refine wpAny_done (by kernel_rfl) ?_ _
          have HF := Lib.hid (HB.out.trans st)
          go_wp2
          go_ret
          exact ⟨rfl, HF.out⟩
      · go_simp
        refine hK _ _ ?_
        clear hK K
        change wpAny _ _ _ _ _ _ { tmps := #[ivT a b, ivT c d, ptT B 0, ptT (B + 1) 0, .bool false, ivT a b, .bool true, .bool true, ivT c d, .bool true, .bool true, .bool true, ptT (B + 1) 0, nuT c, .bool true, .bool true, undef, undef, undef, undef, undef, undef, undef, .bool true, .bool true, .bool true, ptT (B + 1) 1, nuT d, .bool false, .bool false, ptT B 1, undef, undef, ptT (B + 1) 1, nuT d, undef, undef, undef, undef], defers := [] } _
        refine wpAny_ready (rs := [26]) (by kernel_rfl) (by simp) ?_
        refine AllReady.cons rfl (fun K hK => ?_) AllReady.nil
        go_simp
        refine hK _ _ ?_
        clear hK K
        change wpAny _ _ _ _ _ _ { tmps := #[ivT a b, ivT c d, ptT B 0, ptT (B + 1) 0, .bool false, ivT a b, .bool true, .bool true, ivT c d, .bool true, .bool true, .bool true, ptT (B + 1) 0, nuT c, .bool true, .bool true, undef, undef, undef, undef, undef, undef, undef, .bool true, .bool true, .bool true, ptT (B + 1) 1, nuT d, .bool false, .bool false, ptT B 1, nuT b, undef, ptT (B + 1) 1, nuT d, undef, undef, undef, undef], defers := [] } _
        refine wpAny_ready (rs := [27]) (by kernel_rfl) (by simp) ?_
        refine AllReady.cons rfl (fun K hK => ?_) AllReady.nil
        go_simp
        go_wp2_with (go_at_call 85; (with_reducible refine (NB.out _ (HTV.out _ (by assumption))).mono ?_); rintro r wn ⟨vb, rfl, hvb, hE⟩; have st : Ext V wn := Ext.trans (by assumption) hE; clear hE; clear a0 a1 a2 a3; obtain ⟨⟨a0, a1⟩, a2, a3⟩ := HC.out _ st)
        first | (refine hK _ _ ?_; clear hK K) | skip
        change wpAny _ _ _ _ _ _ { tmps := #[ivT a b, ivT c d, ptT B 0, ptT (B + 1) 0, .bool false, ivT a b, .bool true, .bool true, ivT c d, .bool true, .bool true, .bool true, ptT (B + 1) 0, nuT c, .bool true, .bool true, undef, undef, undef, undef, undef, undef, undef, .bool true, .bool true, .bool true, ptT (B + 1) 1, nuT d, .bool false, .bool false, ptT B 1, nuT b, vb, ptT (B + 1) 1, nuT d, undef, undef, undef, undef], defers := [] } _
        refine wpAny_ready (rs := [30]) (by kernel_rfl) (by simp) ?_
        refine AllReady.cons rfl (fun K hK => ?_) AllReady.nil
        go_simp
        go_wp2_with (go_at_call 85; (with_reducible refine (ND.out _ (HTV.out _ (by assumption))).mono ?_); rintro r wn ⟨vd, rfl, hvd, hE⟩; have st : Ext V wn := Ext.trans (by assumption) hE; have hvb := hvb.ext hE; clear hE; clear a0 a1 a2 a3; obtain ⟨⟨a0, a1⟩, a2, a3⟩ := HC.out _ st)
        first | (refine hK _ _ ?_; clear hK K) | skip
        change wpAny _ _ _ _ _ _ { tmps := #[ivT a b, ivT c d, ptT B 0, ptT (B + 1) 0, .bool false, ivT a b, .bool true, .bool true, ivT c d, .bool true, .bool true, .bool true, ptT (B + 1) 0, nuT c, .bool true, .bool true, undef, undef, undef, undef, undef, undef, undef, .bool true, .bool true, .bool true, ptT (B + 1) 1, nuT d, .bool false, .bool false, ptT B 1, nuT b, vb, ptT (B + 1) 1, nuT d, vd, undef, undef, undef], defers := [] } _
        refine wpAny_ready (rs := [31]) (by kernel_rfl) (by simp) ?_
        refine AllReady.cons rfl (fun K hK => ?_) AllReady.nil
        go_simp
        go_wp2_with (go_at_call 99; (refine (L2.out _ _ _ (by exact hvb) (by exact hvd) (HTV.out _ (by assumption))).mono ?_); rintro r wn ⟨rfl, hE⟩; have st : Ext V wn := Ext.trans (by assumption) hE; clear hE; clear a0 a1 a2 a3; obtain ⟨⟨a0, a1⟩, a2, a3⟩ := HC.out _ st)
        first | (refine hK _ _ ?_; clear hK K) | skip
        change wpAny _ _ _ _ _ _ { tmps := #[ivT a b, ivT c d, ptT B 0, ptT (B + 1) 0, .bool false, ivT a b, .bool true, .bool true, ivT c d, .bool true, .bool true, .bool true, ptT (B + 1) 0, nuT c, .bool true, .bool true, undef, undef, undef, undef, undef, undef, undef, .bool true, .bool true, .bool true, ptT (B + 1) 1, nuT d, .bool false, .bool false, ptT B 1, nuT b, vb, ptT (B + 1) 1, nuT d, vd, .bool l2, undef, undef], defers := [] } _
        refine wpAny_take (i := 32) (v := .bool l2) rfl (by kernel_rfl) (by kernel_rfl) (by kernel_rfl) (fun _ _ _ h => h) (Or.inl ⟨by rfl, by intro w; first | (go_simp; done) | (go_simp; with_reducible rfl)⟩) ?_
        refine wpAny_take (i := 33) (v := .bool l2) rfl (by kernel_rfl) (by kernel_rfl) (by kernel_rfl) (fun _ _ _ h => h) (Or.inl ⟨by rfl, by intro w; first | (go_simp; done) | (go_simp; with_reducible rfl)⟩) ?_
        change wpAny _ _ _ _ _ _ { tmps := #[ivT a b, ivT c d, ptT B 0, ptT (B + 1) 0, .bool false, ivT a b, .bool true, .bool true, ivT c d, .bool true, .bool true, .bool true, ptT (B + 1) 0, nuT c, .bool true, .bool true, undef, undef, undef, undef, undef, undef, undef, .bool true, .bool true, .bool true, ptT (B + 1) 1, nuT d, .bool false, .bool false, ptT B 1, nuT b, vb, ptT (B + 1) 1, nuT d, vd, .bool l2, .bool l2, .bool l2], defers := [] } _
        refine wpAny_ready (rs := [34]) (by kernel_rfl) (by simp) ?_
        refine AllReady.cons rfl (fun K hK => ?_) AllReady.nil
        go_simp
        refine hK _ _ ?_
        clear hK K
        refine wpAny_done (by kernel_rfl) ?_ _
        have HF := Lib.hid (HB.out.trans st)
        go_wp2
        go_ret
        exact ⟨rfl, HF.out⟩
  | false =>
    cases l1 with
    | false =>
      obtain rfl : false = z := by rw [← HZ.out]; simp
      refine wp_region_any (by kernel_rfl) ?_
      change wpAny _ _ _ _ _ _ _ (World.drew _)
      refine wpAny_ready (rs := [0]) (by kernel_rfl) (by simp) ?_
      refine AllReady.cons rfl (fun K hK => ?_) AllReady.nil
      go_simp
      refine hK _ _ ?_
      clear hK K
      change wpAny _ _ _ _ _ _ { tmps := #[ivT a b, ivT c d, ptT B 0, ptT (B + 1) 0, .bool false, ivT a b, undef, undef, undef, undef, undef, undef, undef, undef, undef, undef, undef, undef, undef, undef, undef, undef, undef, undef, undef, undef, undef, undef, undef, undef, undef, undef, undef, undef, undef, undef, undef, undef, undef], defers := [] } _
      refine wpAny_ready (rs := [1]) (by kernel_rfl) (by simp) ?_
      refine AllReady.cons rfl (fun K hK => ?_) AllReady.nil
      go_simp
      go_wp2_with (go_at_call 16; (with_reducible refine (CX.out _).mono ?_); rintro r wn ⟨rfl, hE⟩; have st : Ext V wn := Ext.trans (by assumption) hE; clear hE; clear a0 a1 a2 a3; obtain ⟨⟨a0, a1⟩, a2, a3⟩ := HC.out _ st)
      first | (refine hK _ _ ?_; clear hK K) | skip
      change wpAny _ _ _ _ _ _ { tmps := #[ivT a b, ivT c d, ptT B 0, ptT (B + 1) 0, .bool false, ivT a b, .bool true, undef, undef, undef, undef, undef, undef, undef, undef, undef, undef, undef, undef, undef, undef, undef, undef, undef, undef, undef, undef, undef, undef, undef, undef, undef, undef, undef, undef, undef, undef, undef, undef], defers := [] } _
      refine wpAny_take (i := 2) (v := .bool true) rfl (by kernel_rfl) (by kernel_rfl) (by kernel_rfl) (fun _ _ _ h => h) (Or.inl ⟨by rfl, by intro w; first | (go_simp; done) | (go_simp; with_reducible rfl)⟩) ?_
      change wpAny _ _ _ _ _ _ { tmps := #[ivT a b, ivT c d, ptT B 0, ptT (B + 1) 0, .bool false, ivT a b, .bool true, .bool true, undef, undef, undef, undef, undef, undef, undef, undef, undef, undef, undef, undef, undef, undef, undef, undef, undef, undef, undef, undef, undef, undef, undef, undef, undef, undef, undef, undef, undef, undef, undef], defers := [] } _
      refine wpAny_ready (rs := [3]) (by kernel_rfl) (by simp) ?_
      refine AllReady.cons rfl (fun K hK => ?_) AllReady.nil
      go_simp
      refine hK _ _ ?_
      clear hK K
      change wpAny _ _ _ _ _ _ { tmps := #[ivT a b, ivT c d, ptT B 0, ptT (B + 1) 0, .bool false, ivT a b, .bool true, .bool true, ivT c d, undef, undef, undef, undef, undef, undef, undef, undef, undef, undef, undef, undef, undef, undef, undef, undef, undef, undef, undef, undef, undef, undef, undef, undef, undef, undef, undef, undef, undef, undef], defers := [] } _
      refine wpAny_ready (rs := [4]) (by kernel_rfl) (by simp) ?_
      refine AllReady.cons rfl (fun K hK => ?_) AllReady.nil
      go_simp
      go_wp2_with (go_at_call 16; (with_reducible refine (CY.out _).mono ?_); rintro r wn ⟨rfl, hE⟩; have st : Ext V wn := Ext.trans (by assumption) hE; clear hE; clear a0 a1 a2 a3; obtain ⟨⟨a0, a1⟩, a2, a3⟩ := HC.out _ st)
      first | (refine hK _ _ ?_; clear hK K) | skip
      change wpAny _ _ _ _ _ _ { tmps := #[ivT a b, ivT c d, ptT B 0, ptT (B + 1) 0, .bool false, ivT a b, .bool true, .bool true, ivT c d, .bool true, undef, undef, undef, undef, undef, undef, undef, undef, undef, undef, undef, undef, undef, undef, undef, undef, undef, undef, undef, undef, undef, undef, undef, undef, undef, undef, undef, undef, undef], defers := [] } _
      refine wpAny_take (i := 5) (v := .bool true) rfl (by kernel_rfl) (by kernel_rfl) (by kernel_rfl) (fun _ _ _ h => h) (Or.inl ⟨by rfl, by intro w; first | (go_simp; done) | (go_simp; with_reducible rfl)⟩) ?_
      refine wpAny_take (i := 6) (v := .bool true) rfl (by kernel_rfl) (by kernel_rfl) (by kernel_rfl) (fun _ _ _ h => h) (Or.inl ⟨by rfl, by intro w; first | (go_simp; done) | (go_simp; with_reducible rfl)⟩) ?_
      refine wpAny_take (i := 7) (v := ptT (B + 1) 0) rfl (by kernel_rfl) (by kernel_rfl) (by kernel_rfl) (fun _ _ _ h => h) (Or.inl ⟨by rfl, by intro w; first | (go_simp; done) | (go_simp; with_reducible rfl)⟩) ?_
      change wpAny _ _ _ _ _ _ { tmps := #[ivT a b, ivT c d, ptT B 0, ptT (B + 1) 0, .bool false, ivT a b, .bool true, .bool true, ivT c d, .bool true, .bool true, .bool true, ptT (B + 1) 0, undef, undef, undef, undef, undef, undef, undef, undef, undef, undef, undef, undef, undef, undef, undef, undef, undef, undef, undef, undef, undef, undef, undef, undef, undef, undef], defers := [] } _
      refine wpAny_ready (rs := [8]) (by kernel_rfl) (by simp) ?_
      refine AllReady.cons rfl (fun K hK => ?_) AllReady.nil
      go_simp
      refine hK _ _ ?_
      clear hK K
      change wpAny _ _ _ _ _ _ { tmps := #[ivT a b, ivT c d, ptT B 0, ptT (B + 1) 0, .bool false, ivT a b, .bool true, .bool true, ivT c d, .bool true, .bool true, .bool true, ptT (B + 1) 0, nuT c, undef, undef, undef, undef, undef, undef, undef, undef, undef, undef, undef, undef, undef, undef, undef, undef, undef, undef, undef, undef, undef, undef, undef, undef, undef], defers := [] } _
      refine wpAny_take (i := 9) (v := .bool false) rfl (by kernel_rfl) (by kernel_rfl) (by kernel_rfl) (fun _ _ _ h => h) (Or.inl ⟨by rfl, by intro w; first | (go_simp; done) | (go_simp; with_reducible rfl)⟩) ?_
      refine wpAny_take (i := 10) (v := .bool false) rfl (by kernel_rfl) (by kernel_rfl) (by kernel_rfl) (fun _ _ _ h => h) (Or.inl ⟨by rfl, by intro w; first | (go_simp; done) | (go_simp; with_reducible rfl)⟩) ?_
      refine wpAny_take (i := 11) (v := ptT (B + 1) 0) rfl (by kernel_rfl) (by kernel_rfl) (by kernel_rfl) (fun _ _ _ h => h) (Or.inl ⟨by rfl, by intro w; first | (go_simp; done) | (go_simp; with_reducible rfl)⟩) ?_
      refine wpAny_take (i := 14) (v := ptT B 0) rfl (by kernel_rfl) (by kernel_rfl) (by kernel_rfl) (fun _ _ _ h => h) (Or.inl ⟨by rfl, by intro w; first | (go_simp; done) | (go_simp; with_reducible rfl)⟩) ?_
      change wpAny _ _ _ _ _ _ { tmps := #[ivT a b, ivT c d, ptT B 0, ptT (B + 1) 0, .bool false, ivT a b, .bool true, .bool true, ivT c d, .bool true, .bool true, .bool true, ptT (B + 1) 0, nuT c, .bool false, .bool false, ptT (B + 1) 0, undef, undef, ptT B 0, undef, undef, undef, undef, undef, undef, undef, undef, undef, undef, undef, undef, undef, undef, undef, undef, undef, undef, undef], defers := [] } _
      refine wpAny_ready (rs := [12, 15]) (by kernel_rfl) (by simp) ?_
      refine AllReady.cons rfl (fun K hK => ?_) (AllReady.cons rfl (fun K hK => ?_) AllReady.nil)
      · go_simp
        refine hK _ _ ?_
        clear hK K
        change wpAny _ _ _ _ _ _ { tmps := #[ivT a b, ivT c d, ptT B 0, ptT (B + 1) 0, .bool false, ivT a b, .bool true, .bool true, ivT c d, .bool true, .bool true, .bool true, ptT (B + 1) 0, nuT c, .bool false, .bool false, ptT (B + 1) 0, nuT c, undef, ptT B 0, undef, undef, undef, undef, undef, undef, undef, undef, undef, undef, undef, undef, undef, undef, undef, undef, undef, undef, undef], defers := [] } _
        refine wpAny_ready (rs := [13, 15]) (by kernel_rfl) (by simp) ?_
        refine AllReady.cons rfl (fun K hK => ?_) (AllReady.cons rfl (fun K hK => ?_) AllReady.nil)
        · go_simp
          go_wp2_with (go_at_call 85; (with_reducible refine (NC.out _ (HTV.out _ (by assumption))).mono ?_); rintro r wn ⟨vc, rfl, hvc, hE⟩; have st : Ext V wn := Ext.trans (by assumption) hE; clear hE; clear a0 a1 a2 a3; obtain ⟨⟨a0, a1⟩, a2, a3⟩ := HC.out _ st)
          first | (refine hK _ _ ?_; clear hK K) | skip
          change wpAny _ _ _ _ _ _ { tmps := #[ivT a b, ivT c d, ptT B 0, ptT (B + 1) 0, .bool false, ivT a b, .bool true, .bool true, ivT c d, .bool true, .bool true, .bool true, ptT (B + 1) 0, nuT c, .bool false, .bool false, ptT (B + 1) 0, nuT c, vc, ptT B 0, undef, undef, undef, undef, undef, undef, undef, undef, undef, undef, undef, undef, undef, undef, undef, undef, undef, undef, undef], defers := [] } _
          refine wpAny_ready (rs := [15]) (by kernel_rfl) (by simp) ?_
          refine AllReady.cons rfl (fun K hK => ?_) AllReady.nil
          go_simp
          refine hK _ _ ?_
          clear hK K
          change wpAny _ _ _ _ _ _ { tmps := #[ivT a b, ivT c d, ptT B 0, ptT (B + 1) 0, .bool false, ivT a b, .bool true, .bool true, ivT c d, .bool true, .bool true, .bool true, ptT (B + 1) 0, nuT c, .bool false, .bool false, ptT (B + 1) 0, nuT c, vc, ptT B 0, nuT a, undef, undef, undef, undef, undef, undef, undef, undef, undef, undef, undef, undef, undef, undef, undef, undef, undef, undef], defers := [] } _
          refine wpAny_ready (rs := [16]) (by kernel_rfl) (by simp) ?_
          refine AllReady.cons rfl (fun K hK => ?_) AllReady.nil
          go_simp
          go_wp2_with (go_at_call 85; (with_reducible refine (NA.out _ (HTV.out _ (by assumption))).mono ?_); rintro r wn ⟨va, rfl, hva, hE⟩; have st : Ext V wn := Ext.trans (by assumption) hE; have hvc := hvc.ext hE; clear hE; clear a0 a1 a2 a3; obtain ⟨⟨a0, a1⟩, a2, a3⟩ := HC.out _ st)
          first | (refine hK _ _ ?_; clear hK K) | skip
          change wpAny _ _ _ _ _ _ { tmps := #[ivT a b, ivT c d, ptT B 0, ptT (B + 1) 0, .bool false, ivT a b, .bool true, .bool true, ivT c d, .bool true, .bool true, .bool true, ptT (B + 1) 0, nuT c, .bool false, .bool false, ptT (B + 1) 0, nuT c, vc, ptT B 0, nuT a, va, undef, undef, undef, undef, undef, undef, undef, undef, undef, undef, undef, undef, undef, undef, undef, undef, undef], defers := [] } _
          refine wpAny_ready (rs := [17]) (by kernel_rfl) (by simp) ?_
          refine AllReady.cons rfl (fun K hK => ?_) AllReady.nil
          go_simp
          go_wp2_with (go_at_call 99; (refine (L1.out _ _ _ (by exact hvc) (by exact hva) (HTV.out _ (by assumption))).mono ?_); rintro r wn ⟨rfl, hE⟩; have st : Ext V wn := Ext.trans (by assumption) hE; clear hE; clear a0 a1 a2 a3; obtain ⟨⟨a0, a1⟩, a2, a3⟩ := HC.out _ st)
          first | (refine hK _ _ ?_; clear hK K) | skip
          change wpAny _ _ _ _ _ _ { tmps := #[ivT a b, ivT c d, ptT B 0, ptT (B + 1) 0, .bool false, ivT a b, .bool true, .bool true, ivT c d, .bool true, .bool true, .bool true, ptT (B + 1) 0, nuT c, .bool false, .bool false, ptT (B + 1) 0, nuT c, vc, ptT B 0, nuT a, va, .bool false, undef, undef, undef, undef, undef, undef, undef, undef, undef, undef, undef, undef, undef, undef, undef, undef], defers := [] } _
          refine wpAny_take (i := 18) (v := .bool false) rfl (by kernel_rfl) (by kernel_rfl) (by kernel_rfl) (fun _ _ _ h => h) (Or.inl ⟨by rfl, by intro w; first | (go_simp; done) | (go_simp; with_reducible rfl)⟩) ?_
          refine wpAny_take (i := 19) (v := .bool false) rfl (by kernel_rfl) (by kernel_rfl) (by kernel_rfl) (fun _ _ _ h => h) (Or.inl ⟨by rfl, by intro w; first | (go_simp; done) | (go_simp; with_reducible rfl)⟩) ?_
          refine wpAny_take (i := 20) (v := .bool false) rfl (by kernel_rfl) (by kernel_rfl) (by kernel_rfl) (fun _ _ _ h => h) (Or.inl ⟨by rfl, by intro w; first | (go_simp; done) | (go_simp; with_reducible rfl)⟩) ?_
          change wpAny _ _ _ _ _ _ { tmps := #[ivT a b, ivT c d, ptT B 0, ptT (B + 1) 0, .bool false, ivT a b, .bool true, .bool true, ivT c d, .bool true, .bool true, .bool true, ptT (B + 1) 0, nuT c, .bool false, .bool false, ptT (B + 1) 0, nuT c, vc, ptT B 0, nuT a, va, .bool false, .bool false, .bool false, .bool false, undef, undef, undef, undef, undef, undef, undef, undef, undef, undef, undef, undef, undef], defers := [] } _
          refine wpAny_off (i := 21) rfl (by kernel_rfl) (by kernel_rfl) (by kernel_rfl) (fun _ _ _ h => h) (by rfl) (by rfl) ?_
          refine wpAny_off (i := 22) rfl (by kernel_rfl) (by kernel_rfl) (by kernel_rfl) (fun _ _ _ h => h) (by rfl) (by rfl) ?_
          refine wpAny_off (i := 23) rfl (by kernel_rfl) (by kernel_rfl) (by kernel_rfl) (fun _ _ _ h => h) (by rfl) (by rfl) ?_
          refine wpAny_off (i := 24) rfl (by kernel_rfl) (by kernel_rfl) (by kernel_rfl) (fun _ _ _ h => h) (by rfl) (by rfl) ?_
          refine wpAny_off (i := 25) rfl (by kernel_rfl) (by kernel_rfl) (by kernel_rfl) (fun _ _ _ h => h) (by rfl) (by rfl) ?_
          refine wpAny_off (i := 26) rfl (by kernel_rfl) (by kernel_rfl) (by kernel_rfl) (fun _ _ _ h => h) (by rfl) (by rfl) ?_
          refine wpAny_off (i := 27) rfl (by kernel_rfl) (by kernel_rfl) (by kernel_rfl) (fun _ _ _ h => h) (by rfl) (by rfl) ?_
          refine wpAny_off (i := 28) rfl (by kernel_rfl) (by kernel_rfl) (by kernel_rfl) (fun _ _ _ h => h) (by rfl) (by rfl) ?_
          refine wpAny_off (i := 29) rfl (by kernel_rfl) (by kernel_rfl) (by kernel_rfl) (fun _ _ _ h => h) (by rfl) (by rfl) ?_
          refine wpAny_off (i := 30) rfl (by kernel_rfl) (by kernel_rfl) (by kernel_rfl) (fun _ _ _ h => h) (by rfl) (by rfl) ?_
          refine wpAny_off (i := 31) rfl (by kernel_rfl) (by kernel_rfl) (by kernel_rfl) (fun _ _ _ h => h) (by rfl) (by rfl) ?_
          refine wpAny_off (i := 32) rfl (by kernel_rfl) (by kernel_rfl) (by kernel_rfl) (fun _ _ _ h => h) (by rfl) (by rfl) ?_
          refine wpAny_take (i := 33) (v := .bool false) rfl (by kernel_rfl) (by kernel_rfl) (by kernel_rfl) (fun _ _ _ h => h) (Or.inl ⟨by rfl, by intro w; first | (go_simp; done) | (go_simp; with_reducible rfl)⟩) ?_
          change wpAny _ _ _ _ _ _ { tmps := #[ivT a b, ivT c d, ptT B 0, ptT (B + 1) 0, .bool false, ivT a b, .bool true, .bool true, ivT c d, .bool true, .bool true, .bool true, ptT (B + 1) 0, nuT c, .bool false, .bool false, ptT (B + 1) 0, nuT c, vc, ptT B 0, nuT a, va, .bool false, .bool false, .bool false, .bool false, undef, undef, undef, undef, undef, undef, undef, undef, undef, undef, undef, undef, .bool false], defers := [] } _
          refine wpAny_ready (rs := [34]) (by kernel_rfl) (by simp) ?_
          refine AllReady.cons rfl (fun K hK => ?_) AllReady.nil
          go_simp
          refine hK _ _ ?_
          clear hK K
          refine wpAny_done (by kernel_rfl) ?_ _
          have HF := Lib.hid (HB.out.trans st)
          go_wp2
          go_ret
          exact ⟨rfl, HF.out⟩
        · go_simp
          refine hK _ _ ?_
          clear hK K
          change wpAny _ _ _ _ _ _ { tmps := #[ivT a b, ivT c d, ptT B 0, ptT (B + 1) 0, .bool false, ivT a b, .bool true, .bool true, ivT c d, .bool true, .bool true, .bool true, ptT (B + 1) 0, nuT c, .bool false, .bool false, ptT (B + 1) 0, nuT c, undef, ptT B 0, nuT a, undef, undef, undef, undef, undef, undef, undef, undef, undef, undef, undef, undef, undef, undef, undef, undef, undef, undef], defers := [] } _
          refine wpAny_ready (rs := [13]) (by kernel_rfl) (by simp) ?_
          refine AllReady.cons rfl (fun K hK => ?_) AllReady.nil
          go_simp
          go_wp2_with (go_at_call 85; (with_reducible refine (NC.out _ (HTV.out _ (by assumption))).mono ?_); rintro r wn ⟨vc, rfl, hvc, hE⟩; have st : Ext V wn := Ext.trans (by assumption) hE; clear hE; clear a0 a1 a2 a3; obtain ⟨⟨a0, a1⟩, a2, a3⟩ := HC.out _ st)
          first | (refine hK _ _ ?_; clear hK K) | skip
          change wpAny _ _ _ _ _ _ { tmps := #[ivT a b, ivT c d, ptT B 0, ptT (B + 1) 0, .bool false, ivT a b, .bool true, .bool true, ivT c d, .bool true, .bool true, .bool true, ptT (B + 1) 0, nuT c, .bool false, .bool false, ptT (B + 1) 0, nuT c, vc, ptT B 0, nuT a, undef, undef, undef, undef, undef, undef, undef, undef, undef, undef, undef, undef, undef, undef, undef, undef, undef, undef], defers := [] } _
          refine wpAny_ready (rs := [16]) (by kernel_rfl) (by simp) ?_
          refine AllReady.cons rfl (fun K hK => ?_) AllReady.nil
          go_simp
          go_wp2_with (go_at_call 85; (with_reducible refine (NA.out _ (HTV.out _ (by assumption))).mono ?_); rintro r wn ⟨va, rfl, hva, hE⟩; have st : Ext V wn := Ext.trans (by assumption) hE; have hvc := hvc.ext hE; clear hE; clear a0 a1 a2 a3; obtain ⟨⟨a0, a1⟩, a2, a3⟩ := HC.out _ st)
          first | (refine hK _ _ ?_; clear hK K) | skip
          change wpAny _ _ _ _ _ _ { tmps := #[ivT a b, ivT c d, ptT B 0, ptT (B + 1) 0, .bool false, ivT a b, .bool true, .bool true, ivT c d, .bool true, .bool true, .bool true, ptT (B + 1) 0, nuT c, .bool false, .bool false, ptT (B + 1) 0, nuT c, vc, ptT B 0, nuT a, va, undef, undef, undef, undef, undef, undef, undef, undef, undef, undef, undef, undef, undef, undef, undef, undef, undef], defers := [] } _
          refine wpAny_ready (rs := [17]) (by kernel_rfl) (by simp) ?_
          refine AllReady.cons rfl (fun K hK => ?_) AllReady.nil
          go_simp
          go_wp2_with (go_at_call 99; (refine (L1.out _ _ _ (by exact hvc) (by exact hva) (HTV.out _ (by assumption))).mono ?_); rintro r wn ⟨rfl, hE⟩; have st : Ext V wn := Ext.trans (by assumption) hE; clear hE; clear a0 a1 a2 a3; obtain ⟨⟨a0, a1⟩, a2, a3⟩ := HC.out _ st)
          first | (refine hK _ _ ?_; clear hK K) | skip
          change wpAny _ _ _ _ _ _ { tmps := #[ivT a b, ivT c d, ptT B 0, ptT (B + 1) 0, .bool false, ivT a b, .bool true, .bool true, ivT c d, .bool true, .bool true, .bool true, ptT (B + 1) 0, nuT c, .bool false, .bool false, ptT (B + 1) 0, nuT c, vc, ptT B 0, nuT a, va, .bool false, undef, undef, undef, undef, undef, undef, undef, undef, undef, undef, undef, undef, undef, undef, undef, undef], defers := [] } _
          refine wpAny_take (i := 18) (v := .bool false) rfl (by kernel_rfl) (by kernel_rfl) (by kernel_rfl) (fun _ _ _ h => h) (Or.inl ⟨by rfl, by intro w; first | (go_simp; done) | (go_simp; with_reducible rfl)⟩) ?_
          refine wpAny_take (i := 19) (v := .bool false) rfl (by kernel_rfl) (by kernel_rfl) (by kernel_rfl) (fun _ _ _ h => h) (Or.inl ⟨by rfl, by intro w; first | (go_simp; done) | (go_simp; with_reducible rfl)⟩) ?_
          refine wpAny_take (i := 20) (v := .bool false) rfl (by kernel_rfl) (by kernel_rfl) (by kernel_rfl) (fun _ _ _ h => h) (Or.inl ⟨by rfl, by intro w; first | (go_simp; done) | (go_simp; with_reducible rfl)⟩) ?_
          change wpAny _ _ _ _ _ _ { tmps := #[ivT a b, ivT c d, ptT B 0, ptT (B + 1) 0, .bool false, ivT a b, .bool true, .bool true, ivT c d, .bool true, .bool true, .bool true, ptT (B + 1) 0, nuT c, .bool false, .bool false, ptT (B + 1) 0, nuT c, vc, ptT B 0, nuT a, va, .bool false, .bool false, .bool false, .bool false, undef, undef, undef, undef, undef, undef, undef, undef, undef, undef, undef, undef, undef], defers := [] } _
          refine wpAny_off (i := 21) rfl (by kernel_rfl) (by kernel_rfl) (by kernel_rfl) (fun _ _ _ h => h) (by rfl) (by rfl) ?_
          refine wpAny_off (i := 22) rfl (by kernel_rfl) (by kernel_rfl) (by kernel_rfl) (fun _ _ _ h => h) (by rfl) (by rfl) ?_
          refine wpAny_off (i := 23) rfl (by kernel_rfl) (by kernel_rfl) (by kernel_rfl) (fun _ _ _ h => h) (by rfl) (by rfl) ?_
          refine wpAny_off (i := 24) rfl (by kernel_rfl) (by kernel_rfl) (by kernel_rfl) (fun _ _ _ h => h) (by rfl) (by rfl) ?_
          refine wpAny_off (i := 25) rfl (by kernel_rfl) (by kernel_rfl) (by kernel_rfl) (fun _ _ _ h => h) (by rfl) (by rfl) ?_
          refine wpAny_off (i := 26) rfl (by kernel_rfl) (by kernel_rfl) (by kernel_rfl) (fun _ _ _ h => h) (by rfl) (by rfl) ?_
          refine wpAny_off (i := 27) rfl (by kernel_rfl) (by kernel_rfl) (by kernel_rfl) (fun _ _ _ h => h) (by rfl) (by rfl) ?_
          refine wpAny_off (i := 28) rfl (by kernel_rfl) (by kernel_rfl) (by kernel_rfl) (fun _ _ _ h => h) (by rfl) (by rfl) ?_
          refine wpAny_off (i := 29) rfl (by kernel_rfl) (by kernel_rfl) (by kernel_rfl) (fun _ _ _ h => h) (by rfl) (by rfl) ?_
          refine wpAny_off (i := 30) rfl (by kernel_rfl) (by kernel_rfl) (by kernel_rfl) (fun _ _ _ h => h) (by rfl) (by rfl) ?_
          refine wpAny_off (i := 31) rfl (by kernel_rfl) (by kernel_rfl) (by kernel_rfl) (fun _ _ _ h => h) (by rfl) (by rfl) ?_
          refine wpAny_off (i := 32) rfl (by kernel_rfl) (by kernel_rfl) (by kernel_rfl) (fun _ _ _ h => h) (by rfl) (by rfl) ?_
          refine wpAny_take (i := 33) (v := .bool false) rfl (by kernel_rfl) (by kernel_rfl) (by kernel_rfl) (fun _ _ _ h => h) (Or.inl ⟨by rfl, by intro w; first | (go_simp; done) | (go_simp; with_reducible rfl)⟩) ?_
          change wpAny _ _ _ _ _ _ { tmps := #[ivT a b, ivT c d, ptT B 0, ptT (B + 1) 0, .bool false, ivT a b, .bool true, .bool true, ivT c d, .bool true, .bool true, .bool true, ptT (B + 1) 0, nuT c, .bool false, .bool false, ptT (B + 1) 0, nuT c, vc, ptT B 0, nuT a, va, .bool false, .bool false, .bool false, .bool false, undef, undef, undef, undef, undef, undef, undef, undef, undef, undef, undef, undef, .bool false], defers := [] } _
          refine wpAny_ready (rs := [34]) (by kernel_rfl) (by simp) ?_
          refine AllReady.cons rfl (fun K hK => ?_) AllReady.nil
          go_simp
          refine hK _ _ ?_
          clear hK K
          refine wpAny_done (by kernel_rfl) ?_ _
          have HF := Lib.hid (HB.out.trans st)
          go_wp2
          go_ret
          exact ⟨rfl, HF.out⟩
      · go_simp
        refine hK _ _ ?_
        clear hK K
        change wpAny _ _ _ _ _ _ { tmps := #[ivT a b, ivT c d, ptT B 0, ptT (B + 1) 0, .bool false, ivT a b, .bool true, .bool true, ivT c d, .bool true, .bool true, .bool true, ptT (B + 1) 0, nuT c, .bool false, .bool false, ptT (B + 1) 0, undef, undef, ptT B 0, nuT a, undef, undef, undef, undef, undef, undef, undef, undef, undef, undef, undef, undef, undef, undef, undef, undef, undef, undef], defers := [] } _
        refine wpAny_ready (rs := [12]) (by kernel_rfl) (by simp) ?_
        refine AllReady.cons rfl (fun K hK => ?_) AllReady.nil
        go_simp
        refine hK _ _ ?_
        clear hK K
        change wpAny _ _ _ _ _ _ { tmps := #[ivT a b, ivT c d, ptT B 0, ptT (B + 1) 0, .bool false, ivT a b, .bool true, .bool true, ivT c d, .bool true, .bool true, .bool true, ptT (B + 1) 0, nuT c, .bool false, .bool false, ptT (B + 1) 0, nuT c, undef, ptT B 0, nuT a, undef, undef, undef, undef, undef, undef, undef, undef, undef, undef, undef, undef, undef, undef, undef, undef, undef, undef], defers := [] } _
        refine wpAny_ready (rs := [13]) (by kernel_rfl) (by simp) ?_
        refine AllReady.cons rfl (fun K hK => ?_) AllReady.nil
        go_simp
        go_wp2_with (go_at_call 85; (with_reducible refine (NC.out _ (HTV.out _ (by assumption))).mono ?_); rintro r wn ⟨vc, rfl, hvc, hE⟩; have st : Ext V wn := Ext.trans (by assumption) hE; clear hE; clear a0 a1 a2 a3; obtain ⟨⟨a0, a1⟩, a2, a3⟩ := HC.out _ st)
        first | (refine hK _ _ ?_; clear hK K) | skip
        change wpAny _ _ _ _ _ _ { tmps := #[ivT a b, ivT c d, ptT B 0, ptT (B + 1) 0, .bool false, ivT a b, .bool true, .bool true, ivT c d, .bool true, .bool true, .bool true, ptT (B + 1) 0, nuT c, .bool false, .bool false, ptT (B + 1) 0, nuT c, vc, ptT B 0, nuT a, undef, undef, undef, undef, undef, undef, undef, undef, undef, undef, undef, undef, undef, undef, undef, undef, undef, undef], defers := [] } _
        refine wpAny_ready (rs := [16]) (by kernel_rfl) (by simp) ?_
        refine AllReady.cons rfl (fun K hK => ?_) AllReady.nil
        go_simp
        go_wp2_with (go_at_call 85; (with_reducible refine (NA.out _ (HTV.out _ (by assumption))).mono ?_); rintro r wn ⟨va, rfl, hva, hE⟩; have st : Ext V wn := Ext.trans (by assumption) hE; have hvc := hvc.ext hE; clear hE; clear a0 a1 a2 a3; obtain ⟨⟨a0, a1⟩, a2, a3⟩ := HC.out _ st)
        first | (refine hK _ _ ?_; clear hK K) | skip
        change wpAny _ _ _ _ _ _ { tmps := #[ivT a b, ivT c d, ptT B 0, ptT (B + 1) 0, .bool false, ivT a b, .bool true, .bool true, ivT c d, .bool true, .bool true, .bool true, ptT (B + 1) 0, nuT c, .bool false, .bool false, ptT (B + 1) 0, nuT c, vc, ptT B 0, nuT a, va, undef, undef, undef, undef, undef, undef, undef, undef, undef, undef, undef, undef, undef, undef, undef, undef, undef], defers := [] } _
        refine wpAny_ready (rs := [17]) (by kernel_rfl) (by simp) ?_
        refine AllReady.cons rfl (fun K hK => ?_) AllReady.nil
        go_simp
        go_wp2_with (go_at_call 99; (refine (L1.out _ _ _ (by exact hvc) (by exact hva) (HTV.out _ (by assumption))).mono ?_); rintro r wn ⟨rfl, hE⟩; have st : Ext V wn := Ext.trans (by assumption) hE; clear hE; clear a0 a1 a2 a3; obtain ⟨⟨a0, a1⟩, a2, a3⟩ := HC.out _ st)
        first | (refine hK _ _ ?_; clear hK K) | skip
        change wpAny _ _ _ _ _ _ { tmps := #[ivT a b, ivT c d, ptT B 0, ptT (B + 1) 0, .bool false, ivT a b, .bool true, .bool true, ivT c d, .bool true, .bool true, .bool true, ptT (B + 1) 0, nuT c, .bool false, .bool false, ptT (B + 1) 0, nuT c, vc, ptT B 0, nuT a, va, .bool false, undef, undef, undef, undef, undef, undef, undef, undef, undef, undef, undef, undef, undef, undef, undef, undef], defers := [] } _
        refine wpAny_take (i := 18) (v := .bool false) rfl (by kernel_rfl) (by kernel_rfl) (by kernel_rfl) (fun _ _ _ h => h) (Or.inl ⟨by rfl, by intro w; first | (go_simp; done) | (go_simp; with_reducible rfl)⟩) ?_
        refine wpAny_take (i := 19) (v := .bool false) rfl (by kernel_rfl) (by kernel_rfl) (by kernel_rfl) (fun _ _ _ h => h) (Or.inl ⟨by rfl, by intro w; first | (go_simp; done) | (go_simp; with_reducible rfl)⟩) ?_
        refine wpAny_take (i := 20) (v := .bool false) rfl (by kernel_rfl) (by kernel_rfl) (by kernel_rfl) (fun _ _ _ h => h) (Or.inl ⟨by rfl, by intro w; first | (go_simp; done) | (go_simp; with_reducible rfl)⟩) ?_
        change wpAny _ _ _ _ _ _ { tmps := #[ivT a b, ivT c d, ptT B 0, ptT (B + 1) 0, .bool false, ivT a b, .bool true, .bool true, ivT c d, .bool true, .bool true, .bool true, ptT (B + 1) 0, nuT c, .bool false, .bool false, ptT (B + 1) 0, nuT c, vc, ptT B 0, nuT a, va, .bool false, .bool false, .bool false, .bool false, undef, undef, undef, undef, undef, undef, undef, undef, undef, undef, undef, undef, undef], defers := [] } _
        refine wpAny_off (i := 21) rfl (by kernel_rfl) (by kernel_rfl) (by kernel_rfl) (fun _ _ _ h => h) (by rfl) (by rfl) ?_
        refine wpAny_off (i := 22) rfl (by kernel_rfl) (by kernel_rfl) (by kernel_rfl) (fun _ _ _ h => h) (by rfl) (by rfl) ?_
        refine wpAny_off (i := 23) rfl (by kernel_rfl) (by kernel_rfl) (by kernel_rfl) (fun _ _ _ h => h) (by rfl) (by rfl) ?_
        refine wpAny_off (i := 24) rfl (by kernel_rfl) (by kernel_rfl) (by kernel_rfl) (fun _ _ _ h => h) (by rfl) (by rfl) ?_
        refine wpAny_off (i := 25) rfl (by kernel_rfl) (by kernel_rfl) (by kernel_rfl) (fun _ _ _ h => h) (by rfl) (by rfl) ?_
        refine wpAny_off (i := 26) rfl (by kernel_rfl) (by kernel_rfl) (by kernel_rfl) (fun _ _ _ h => h) (by rfl) (by rfl) ?_
        refine wpAny_off (i := 27) rfl (by kernel_rfl) (by kernel_rfl) (by kernel_rfl) (fun _ _ _ h => h) (by rfl) (by rfl) ?_
        refine wpAny_off (i := 28) rfl (by kernel_rfl) (by kernel_rfl) (by kernel_rfl) (fun _ _ _ h => h) (by rfl) (by rfl) ?_
        refine wpAny_off (i := 29) rfl (by kernel_rfl) (by kernel_rfl) (by kernel_rfl) (fun _ _ _ h => h) (by rfl) (by rfl) ?_
        refine wpAny_off (i := 30) rfl (by kernel_rfl) (by kernel_rfl) (by kernel_rfl) (fun _ _ _ h => h) (by rfl) (by rfl) ?_
        refine wpAny_off (i := 31) rfl (by kernel_rfl) (by kernel_rfl) (by kernel_rfl) (fun _ _ _ h => h) (by rfl) (by rfl) ?_
        refine wpAny_off (i := 32) rfl (by kernel_rfl) (by kernel_rfl) (by kernel_rfl) (fun _ _ _ h => h) (by rfl) (by rfl) ?_
        refine wpAny_take (i := 33) (v := .bool false) rfl (by kernel_rfl) (by kernel_rfl) (by kernel_rfl) (fun _ _ _ h => h) (Or.inl ⟨by rfl, by intro w; first | (go_simp; done) | (go_simp; with_reducible rfl)⟩) ?_
        change wpAny _ _ _ _ _ _ { tmps := #[ivT a b, ivT c d, ptT B 0, ptT (B + 1) 0, .bool false, ivT a b, .bool true, .bool true, ivT c d, .bool true, .bool true, .bool true, ptT (B + 1) 0, nuT c, .bool false, .bool false, ptT (B + 1) 0, nuT c, vc, ptT B 0, nuT a, va, .bool false, .bool false, .bool false, .bool false, undef, undef, undef, undef, undef, undef, undef, undef, undef, undef, undef, undef, .bool false], defers := [] } _
        refine wpAny_ready (rs := [34]) (by kernel_rfl) (by simp) ?_
        refine AllReady.cons rfl (fun K hK => ?_) AllReady.nil
        go_simp
        refine hK _ _ ?_
        clear hK K
        refine wpAny_done (by kernel_rfl) ?_ _
        have HF := Lib.hid (HB.out.trans st)
        go_wp2
        go_ret
        exact ⟨rfl, HF.out⟩
    | true =>
      cases dI with
      | true =>
        obtain rfl : true = z := by rw [← HZ.out]; simp
        refine wp_region_any (by kernel_rfl) ?_
        change wpAny _ _ _ _ _ _ _ (World.drew _)
        refine wpAny_ready (rs := [0]) (by kernel_rfl) (by simp) ?_
        refine AllReady.cons rfl (fun K hK => ?_) AllReady.nil
        go_simp
        refine hK _ _ ?_
        clear hK K
        change wpAny _ _ _ _ _ _ { tmps := #[ivT a b, ivT c d, ptT B 0, ptT (B + 1) 0, .bool false, ivT a b, undef, undef, undef, undef, undef, undef, undef, undef, undef, undef, undef, undef, undef, undef, undef, undef, undef, undef, undef, undef, undef, undef, undef, undef, undef, undef, undef, undef, undef, undef, undef, undef, undef], defers := [] } _
        refine wpAny_ready (rs := [1]) (by kernel_rfl) (by simp) ?_
        refine AllReady.cons rfl (fun K hK => ?_) AllReady.nil
        go_simp
        go_wp2_with (go_at_call 16; (with_reducible refine (CX.out _).mono ?_); rintro r wn ⟨rfl, hE⟩; have st : Ext V wn := Ext.trans (by assumption) hE; clear hE; clear a0 a1 a2 a3; obtain ⟨⟨a0, a1⟩, a2, a3⟩ := HC.out _ st)
        first | (refine hK _ _ ?_; clear hK K) | skip
        change wpAny _ _ _ _ _ _ { tmps := #[ivT a b, ivT c d, ptT B 0, ptT (B + 1) 0, .bool false, ivT a b, .bool true, undef, undef, undef, undef, undef, undef, undef, undef, undef, undef, undef, undef, undef, undef, undef, undef, undef, undef, undef, undef, undef, undef, undef, undef, undef, undef, undef, undef, undef, undef, undef, undef], defers := [] } _
        refine wpAny_take (i := 2) (v := .bool true) rfl (by kernel_rfl) (by kernel_rfl) (by kernel_rfl) (fun _ _ _ h => h) (Or.inl ⟨by rfl, by intro w; first | (go_simp; done) | (go_simp; with_reducible rfl)⟩) ?_
        change wpAny _ _ _ _ _ _ { tmps := #[ivT a b, ivT c d, ptT B 0, ptT (B + 1) 0, .bool false, ivT a b, .bool true, .bool true, undef, undef, undef, undef, undef, undef, undef, undef, undef, undef, undef, undef, undef, undef, undef, undef, undef, undef, undef, undef, undef, undef, undef, undef, undef, undef, undef, undef, undef, undef, undef], defers := [] } _
        refine wpAny_ready (rs := [3]) (by kernel_rfl) (by simp) ?_
        refine AllReady.cons rfl (fun K hK => ?_) AllReady.nil
        go_simp
        refine hK _ _ ?_
        clear hK K
        change wpAny _ _ _ _ _ _ { tmps := #[ivT a b, ivT c d, ptT B 0, ptT (B + 1) 0, .bool false, ivT a b, .bool true, .bool true, ivT c d, undef, undef, undef, undef, undef, undef, undef, undef, undef, undef, undef, undef, undef, undef, undef, undef, undef, undef, undef, undef, undef, undef, undef, undef, undef, undef, undef, undef, undef, undef], defers := [] } _
        refine wpAny_ready (rs := [4]) (by kernel_rfl) (by simp) ?_
        refine AllReady.cons rfl (fun K hK => ?_) AllReady.nil
        go_simp
        go_wp2_with (go_at_call 16; (with_reducible refine (CY.out _).mono ?_); rintro r wn ⟨rfl, hE⟩; have st : Ext V wn := Ext.trans (by assumption) hE; clear hE; clear a0 a1 a2 a3; obtain ⟨⟨a0, a1⟩, a2, a3⟩ := HC.out _ st)
        first | (refine hK _ _ ?_; clear hK K) | skip
        change wpAny _ _ _ _ _ _ { tmps := #[ivT a b, ivT c d, ptT B 0, ptT (B + 1) 0, .bool false, ivT a b, .bool true, .bool true, ivT c d, .bool true, undef, undef, undef, undef, undef, undef, undef, undef, undef, undef, undef, undef, undef, undef, undef, undef, undef, undef, undef, undef, undef, undef, undef, undef, undef, undef, undef, undef, undef], defers := [] } _
        refine wpAny_take (i := 5) (v := .bool true) rfl (by kernel_rfl) (by kernel_rfl) (by kernel_rfl) (fun _ _ _ h => h) (Or.inl ⟨by rfl, by intro w; first | (go_simp; done) | (go_simp; with_reducible rfl)⟩) ?_
        refine wpAny_take (i := 6) (v := .bool true) rfl (by kernel_rfl) (by kernel_rfl) (by kernel_rfl) (fun _ _ _ h => h) (Or.inl ⟨by rfl, by intro w; first | (go_simp; done) | (go_simp; with_reducible rfl)⟩) ?_
        refine wpAny_take (i := 7) (v := ptT (B + 1) 0) rfl (by kernel_rfl) (by kernel_rfl) (by kernel_rfl) (fun _ _ _ h => h) (Or.inl ⟨by rfl, by intro w; first | (go_simp; done) | (go_simp; with_reducible rfl)⟩) ?_
        change wpAny _ _ _ _ _ _ { tmps := #[ivT a b, ivT c d, ptT B 0, ptT (B + 1) 0, .bool false, ivT a b, .bool true, .bool true, ivT c d, .bool true, .bool true, .bool true, ptT (B + 1) 0, undef, undef, undef, undef, undef, undef, undef, undef, undef, undef, undef, undef, undef, undef, undef, undef, undef, undef, undef, undef, undef, undef, undef, undef, undef, undef], defers := [] } _
        refine wpAny_ready (rs := [8]) (by kernel_rfl) (by simp) ?_
        refine AllReady.cons rfl (fun K hK => ?_) AllReady.nil
        go_simp
        refine hK _ _ ?_
        clear hK K
        change wpAny _ _ _ _ _ _ { tmps := #[ivT a b, ivT c d, ptT B 0, ptT (B + 1) 0, .bool false, ivT a b, .bool true, .bool true, ivT c d, .bool true, .bool true, .bool true, ptT (B + 1) 0, nuT c, undef, undef, undef, undef, undef, undef, undef, undef, undef, undef, undef, undef, undef, undef, undef, undef, undef, undef, undef, undef, undef, undef, undef, undef, undef], defers := [] } _
        refine wpAny_take (i := 9) (v := .bool false) rfl (by kernel_rfl) (by kernel_rfl) (by kernel_rfl) (fun _ _ _ h => h) (Or.inl ⟨by rfl, by intro w; first | (go_simp; done) | (go_simp; with_reducible rfl)⟩) ?_
        refine wpAny_take (i := 10) (v := .bool false) rfl (by kernel_rfl) (by kernel_rfl) (by kernel_rfl) (fun _ _ _ h => h) (Or.inl ⟨by rfl, by intro w; first | (go_simp; done) | (go_simp; with_reducible rfl)⟩) ?_
        refine wpAny_take (i := 11) (v := ptT (B + 1) 0) rfl (by kernel_rfl) (by kernel_rfl) (by kernel_rfl) (fun _ _ _ h => h) (Or.inl ⟨by rfl, by intro w; first | (go_simp; done) | (go_simp; with_reducible rfl)⟩) ?_
        refine wpAny_take (i := 14) (v := ptT B 0) rfl (by kernel_rfl) (by kernel_rfl) (by kernel_rfl) (fun _ _ _ h => h) (Or.inl ⟨by rfl, by intro w; first | (go_simp; done) | (go_simp; with_reducible rfl)⟩) ?_
        change wpAny _ _ _ _ _ _ { tmps := #[ivT a b, ivT c d, ptT B 0, ptT (B + 1) 0, .bool false, ivT a b, .bool true, .bool true, ivT c d, .bool true, .bool true, .bool true, ptT (B + 1) 0, nuT c, .bool false, .bool false, ptT (B + 1) 0, undef, undef, ptT B 0, undef, undef, undef, undef, undef, undef, undef, undef, undef, undef, undef, undef, undef, undef, undef, undef, undef, undef, undef], defers := [] } _
        refine wpAny_ready (rs := [12, 15]) (by kernel_rfl) (by simp) ?_
        refine AllReady.cons rfl (fun K hK => ?_) (AllReady.cons rfl (fun K hK => ?_) AllReady.nil)
        · go_simp
          refine hK _ _ ?_
          clear hK K
          change wpAny _ _ _ _ _ _ { tmps := #[ivT a b, ivT c d, ptT B 0, ptT (B + 1) 0, .bool false, ivT a b, .bool true, .bool true, ivT c d, .bool true, .bool true, .bool true, ptT (B + 1) 0, nuT c, .bool false, .bool false, ptT (B + 1) 0, nuT c, undef, ptT B 0, undef, undef, undef, undef, undef, undef, undef, undef, undef, undef, undef, undef, undef, undef, undef, undef, undef, undef, undef], defers := [] } _
          refine wpAny_ready (rs := [13, 15]) (by kernel_rfl) (by simp) ?_
          refine AllReady.cons rfl (fun K hK => ?_) (AllReady.cons rfl (fun K hK => ?_) AllReady.nil)
          · go_simp
            go_wp2_with (go_at_call 85; (with_reducible refine (NC.out _ (HTV.out _ (by assumption))).mono ?_); rintro r wn ⟨vc, rfl, hvc, hE⟩; have st : Ext V wn := Ext.trans (by assumption) hE; clear hE; clear a0 a1 a2 a3; obtain ⟨⟨a0, a1⟩, a2, a3⟩ := HC.out _ st)
            first | (refine hK _ _ ?_; clear hK K) | skip
            change wpAny _ _ _ _ _ _ { tmps := #[ivT a b, ivT c d, ptT B 0, ptT (B + 1) 0, .bool false, ivT a b, .bool true, .bool true, ivT c d, .bool true, .bool true, .bool true, ptT (B + 1) 0, nuT c, .bool false, .bool false, ptT (B + 1) 0, nuT c, vc, ptT B 0, undef, undef, undef, undef, undef, undef, undef, undef, undef, undef, undef, undef, undef, undef, undef, undef, undef, undef, undef], defers := [] } _
            refine wpAny_ready (rs := [15]) (by kernel_rfl) (by simp) ?_
            refine AllReady.cons rfl (fun K hK => ?_) AllReady.nil
            go_simp
            refine hK _ _ ?_
            clear hK K
            change wpAny _ _ _ _ _ _ { tmps := #[ivT a b, ivT c d, ptT B 0, ptT (B + 1) 0, .bool false, ivT a b, .bool true, .bool true, ivT c d, .bool true, .bool true, .bool true, ptT (B + 1) 0, nuT c, .bool false, .bool false, ptT (B + 1) 0, nuT c, vc, ptT B 0, nuT a, undef, undef, undef, undef, undef, undef, undef, undef, undef, undef, undef, undef, undef, undef, undef, undef, undef, undef], defers := [] } _
            refine wpAny_ready (rs := [16]) (by kernel_rfl) (by simp) ?_
            refine AllReady.cons rfl (fun K hK => ?_) AllReady.nil
            go_simp
            go_wp2_with (go_at_call 85; (with_reducible refine (NA.out _ (HTV.out _ (by assumption))).mono ?_); rintro r wn ⟨va, rfl, hva, hE⟩; have st : Ext V wn := Ext.trans (by assumption) hE; have hvc := hvc.ext hE; clear hE; clear a0 a1 a2 a3; obtain ⟨⟨a0, a1⟩, a2, a3⟩ := HC.out _ st)
            first | (refine hK _ _ ?_; clear hK K) | skip
            change wpAny _ _ _ _ _ _ { tmps := #[ivT a b, ivT c d, ptT B 0, ptT (B + 1) 0, .bool false, ivT a b, .bool true, .bool true, ivT c d, .bool true, .bool true, .bool true, ptT (B + 1) 0, nuT c, .bool false, .bool false, ptT (B + 1) 0, nuT c, vc, ptT B 0, nuT a, va, undef, undef, undef, undef, undef, undef, undef, undef, undef, undef, undef, undef, undef, undef, undef, undef, undef], defers := [] } _
            refine wpAny_ready (rs := [17]) (by kernel_rfl) (by simp) ?_
            refine AllReady.cons rfl (fun K hK => ?_) AllReady.nil
            go_simp
            go_wp2_with (go_at_call 99; (refine (L1.out _ _ _ (by exact hvc) (by exact hva) (HTV.out _ (by assumption))).mono ?_); rintro r wn ⟨rfl, hE⟩; have st : Ext V wn := Ext.trans (by assumption) hE; clear hE; clear a0 a1 a2 a3; obtain ⟨⟨a0, a1⟩, a2, a3⟩ := HC.out _ st)
            first | (refine hK _ _ ?_; clear hK K) | skip
            change wpAny _ _ _ _ _ _ { tmps := #[ivT a b, ivT c d, ptT B 0, ptT (B + 1) 0, .bool false, ivT a b, .bool true, .bool true, ivT c d, .bool true, .bool true, .bool true, ptT (B + 1) 0, nuT c, .bool false, .bool false, ptT (B + 1) 0, nuT c, vc, ptT B 0, nuT a, va, .bool true, undef, undef, undef, undef, undef, undef, undef, undef, undef, undef, undef, undef, undef, undef, undef, undef], defers := [] } _
            refine wpAny_take (i := 18) (v := .bool true) rfl (by kernel_rfl) (by kernel_rfl) (by kernel_rfl) (fun _ _ _ h => h) (Or.inl ⟨by rfl, by intro w; first | (go_simp; done) | (go_simp; with_reducible rfl)⟩) ?_
            refine wpAny_take (i := 19) (v := .bool true) rfl (by kernel_rfl) (by kernel_rfl) (by kernel_rfl) (fun _ _ _ h => h) (Or.inl ⟨by rfl, by intro w; first | (go_simp; done) | (go_simp; with_reducible rfl)⟩) ?_
            refine wpAny_take (i := 20) (v := .bool true) rfl (by kernel_rfl) (by kernel_rfl) (by kernel_rfl) (fun _ _ _ h => h) (Or.inl ⟨by rfl, by intro w; first | (go_simp; done) | (go_simp; with_reducible rfl)⟩) ?_
            refine wpAny_take (i := 21) (v := ptT (B + 1) 1) rfl (by kernel_rfl) (by kernel_rfl) (by kernel_rfl) (fun _ _ _ h => h) (Or.inl ⟨by rfl, by intro w; first | (go_simp; done) | (go_simp; with_reducible rfl)⟩) ?_
            change wpAny _ _ _ _ _ _ { tmps := #[ivT a b, ivT c d, ptT B 0, ptT (B + 1) 0, .bool false, ivT a b, .bool true, .bool true, ivT c d, .bool true, .bool true, .bool true, ptT (B + 1) 0, nuT c, .bool false, .bool false, ptT (B + 1) 0, nuT c, vc, ptT B 0, nuT a, va, .bool true, .bool true, .bool true, .bool true, ptT (B + 1) 1, undef, undef, undef, undef, undef, undef, undef, undef, undef, undef, undef, undef], defers := [] } _
            refine wpAny_ready (rs := [22]) (by kernel_rfl) (by simp) ?_
            refine AllReady.cons rfl (fun K hK => ?_) AllReady.nil
            go_simp
            refine hK _ _ ?_
            clear hK K
            change wpAny _ _ _ _ _ _ { tmps := #[ivT a b, ivT c d, ptT B 0, ptT (B + 1) 0, .bool false, ivT a b, .bool true, .bool true, ivT c d, .bool true, .bool true, .bool true, ptT (B + 1) 0, nuT c, .bool false, .bool false, ptT (B + 1) 0, nuT c, vc, ptT B 0, nuT a, va, .bool true, .bool true, .bool true, .bool true, ptT (B + 1) 1, nuT d, undef, undef, undef, undef, undef, undef, undef, undef, undef, undef, undef], defers := [] } _
            refine wpAny_take (i := 23) (v := .bool true) rfl (by kernel_rfl) (by kernel_rfl) (by kernel_rfl) (fun _ _ _ h => h) (Or.inl ⟨by rfl, by intro w; first | (go_simp; done) | (go_simp; with_reducible rfl)⟩) ?_
            refine wpAny_take (i := 24) (v := .bool true) rfl (by kernel_rfl) (by kernel_rfl) (by kernel_rfl) (fun _ _ _ h => h) (Or.inl ⟨by rfl, by intro w; first | (go_simp; done) | (go_simp; with_reducible rfl)⟩) ?_
            change wpAny _ _ _ _ _ _ { tmps := #[ivT a b, ivT c d, ptT B 0, ptT (B + 1) 0, .bool false, ivT a b, .bool true, .bool true, ivT c d, .bool true, .bool true, .bool true, ptT (B + 1) 0, nuT c, .bool false, .bool false, ptT (B + 1) 0, nuT c, vc, ptT B 0, nuT a, va, .bool true, .bool true, .bool true, .bool true, ptT (B + 1) 1, nuT d, .bool true, .bool true, undef, undef, undef, undef, undef, undef, undef, undef, undef], defers := [] } _
            refine wpAny_off (i := 25) rfl (by kernel_rfl) (by kernel_rfl) (by kernel_rfl) (fun _ _ _ h => h) (by rfl) (by rfl) ?_
            refine wpAny_off (i := 26) rfl (by kernel_rfl) (by kernel_rfl) (by kernel_rfl) (fun _ _ _ h => h) (by rfl) (by rfl) ?_
            refine wpAny_off (i := 27) rfl (by kernel_rfl) (by kernel_rfl) (by kernel_rfl) (fun _ _ _ h => h) (by rfl) (by rfl) ?_
            refine wpAny_off (i := 28) rfl (by kernel_rfl) (by kernel_rfl) (by kernel_rfl) (fun _ _ _ h => h) (by rfl) (by rfl) ?_
            refine wpAny_off (i := 29) rfl (by kernel_rfl) (by kernel_rfl) (by kernel_rfl) (fun _ _ _ h => h) (by rfl) (by rfl) ?_
            refine wpAny_off (i := 30) rfl (by kernel_rfl) (by kernel_rfl) (by kernel_rfl) (fun _ _ _ h => h) (by rfl) (by rfl) ?_
            refine wpAny_off (i := 31) rfl (by kernel_rfl) (by kernel_rfl) (by kernel_rfl) (fun _ _ _ h => h) (by rfl) (by rfl) ?_
            refine wpAny_take (i := 32) (v := .bool true) rfl (by kernel_rfl) (by kernel_rfl) (by kernel_rfl) (fun _ _ _ h => h) (Or.inl ⟨by rfl, by intro w; first | (go_simp; done) | (go_simp; with_reducible rfl)⟩) ?_
            refine wpAny_take (i := 33) (v := .bool true) rfl (by kernel_rfl) (by kernel_rfl) (by kernel_rfl) (fun _ _ _ h => h) (Or.inl ⟨by rfl, by intro w; first | (go_simp; done) | (go_simp; with_reducible rfl)⟩) ?_
            change wpAny _ _ _ _ _ _ { tmps := #[ivT a b, ivT c d, ptT B 0, ptT (B + 1) 0, .bool false, ivT a b, .bool true, .bool true, ivT c d, .bool true, .bool true, .bool true, ptT (B + 1) 0, nuT c, .bool false, .bool false, ptT (B + 1) 0, nuT c, vc, ptT B 0, nuT a, va, .bool true, .bool true, .bool true, .bool true, ptT (B + 1) 1, nuT d, .bool true, .bool true, undef, undef, undef, undef, undef, undef, undef, .bool true, .bool true], defers := [] } _
            refine wpAny_ready (rs := [34]) (by kernel_rfl) (by simp) ?_
            refine AllReady.cons rfl (fun K hK => ?_) AllReady.nil
            go_simp
            refine hK _ _ ?_
            clear hK K
            refine wpAny_done (by kernel_rfl) ?_ _
            have HF := Lib.hid (HB.out.trans st)
            go_wp2
            go_ret
            exact ⟨rfl, HF.out⟩
          · go_simp
            refine hK _ _ ?_
            clear hK K
            change wpAny _ _ _ _ _ _ { tmps := #[ivT a b, ivT c d, ptT B 0, ptT (B + 1) 0, .bool false, ivT a b, .bool true, .bool true, ivT c d, .bool true, .bool true, .bool true, ptT (B + 1) 0, nuT c, .bool false, .bool false, ptT (B + 1) 0, nuT c, undef, ptT B 0, nuT a, undef, undef, undef, undef, undef, undef, undef, undef, undef, undef, undef, undef, undef, undef, undef, undef, undef, undef], defers := [] } _
            refine wpAny_ready (rs := [13]) (by kernel_rfl) (by simp) ?_
            refine AllReady.cons rfl (fun K hK => ?_) AllReady.nil
            go_simp
            go_wp2_with (go_at_call 85; (with_reducible refine (NC.out _ (HTV.out _ (by assumption))).mono ?_); rintro r wn ⟨vc, rfl, hvc, hE⟩; have st : Ext V wn := Ext.trans (by assumption) hE; clear hE; clear a0 a1 a2 a3; obtain ⟨⟨a0, a1⟩, a2, a3⟩ := HC.out _ st)
            first | (refine hK _ _ ?_; clear hK K) | skip
            change wpAny _ _ _ _ _ _ { tmps := #[ivT a b, ivT c d, ptT B 0, ptT (B + 1) 0, .bool false, ivT a b, .bool true, .bool true, ivT c d, .bool true, .bool true, .bool true, ptT (B + 1) 0, nuT c, .bool false, .bool false, ptT (B + 1) 0, nuT c, vc, ptT B 0, nuT a, undef, undef, undef, undef, undef, undef, undef, undef, undef, undef, undef, undef, undef, undef, undef, undef, undef, undef], defers := [] } _
            refine wpAny_ready (rs := [16]) (by kernel_rfl) (by simp) ?_
            refine AllReady.cons rfl (fun K hK => ?_) AllReady.nil
            go_simp
            go_wp2_with (go_at_call 85; (with_reducible refine (NA.out _ (HTV.out _ (by assumption))).mono ?_); rintro r wn ⟨va, rfl, hva, hE⟩; have st : Ext V wn := Ext.trans (by assumption) hE; have hvc := hvc.ext hE; clear hE; clear a0 a1 a2 a3; obtain ⟨⟨a0, a1⟩, a2, a3⟩ := HC.out _ st)
            first | (refine hK _ _ ?_; clear hK K) | skip
            change wpAny _ _ _ _ _ _ { tmps := #[ivT a b, ivT c d, ptT B 0, ptT (B + 1) 0, .bool false, ivT a b, .bool true, .bool true, ivT c d, .bool true, .bool true, .bool true, ptT (B + 1) 0, nuT c, .bool false, .bool false, ptT (B + 1) 0, nuT c, vc, ptT B 0, nuT a, va, undef, undef, undef, undef, undef, undef, undef, undef, undef, undef, undef, undef, undef, undef, undef, undef, undef], defers := [] } _
            refine wpAny_ready (rs := [17]) (by kernel_rfl) (by simp) ?_
            refine AllReady.cons rfl (fun K hK => ?_) AllReady.nil
            go_simp
            go_wp2_with (go_at_call 99; (refine (L1.out _ _ _ (by exact hvc) (by exact hva) (HTV.out _ (by assumption))).mono ?_); rintro r wn ⟨rfl, hE⟩; have st : Ext V wn := Ext.trans (by assumption) hE; clear hE; clear a0 a1 a2 a3; obtain ⟨⟨a0, a1⟩, a2, a3⟩ := HC.out _ st)
            first | (refine hK _ _ ?_; clear hK K) | skip
            change wpAny _ _ _ _ _ _ { tmps := #[ivT a b, ivT c d, ptT B 0, ptT (B + 1) 0, .bool false, ivT a b, .bool true, .bool true, ivT c d, .bool true, .bool true, .bool true, ptT (B + 1) 0, nuT c, .bool false, .bool false, ptT (B + 1) 0, nuT c, vc, ptT B 0, nuT a, va, .bool true, undef, undef, undef, undef, undef, undef, undef, undef, undef, undef, undef, undef, undef, undef, undef, undef], defers := [] } _
            refine wpAny_take (i := 18) (v := .bool true) rfl (by kernel_rfl) (by kernel_rfl) (by kernel_rfl) (fun _ _ _ h => h) (Or.inl ⟨by rfl, by intro w; first | (go_simp; done) | (go_simp; with_reducible rfl)⟩) ?_
            refine wpAny_take (i := 19) (v := .bool true) rfl (by kernel_rfl) (by kernel_rfl) (by kernel_rfl) (fun _ _ _ h => h) (Or.inl ⟨by rfl, by intro w; first | (go_simp; done) | (go_simp; with_reducible rfl)⟩) ?_
            refine wpAny_take (i := 20) (v := .bool true) rfl (by kernel_rfl) (by kernel_rfl) (by kernel_rfl) (fun _ _ _ h => h) (Or.inl ⟨by rfl, by intro w; first | (go_simp; done) | (go_simp; with_reducible rfl)⟩) ?_
            refine wpAny_take (i := 21) (v := ptT (B + 1) 1) rfl (by kernel_rfl) (by kernel_rfl) (by kernel_rfl) (fun _ _ _ h => h) (Or.inl ⟨by rfl, by intro w; first | (go_simp; done) | (go_simp; with_reducible rfl)⟩) ?_
            change wpAny _ _ _ _ _ _ { tmps := #[ivT a b, ivT c d, ptT B 0, ptT (B + 1) 0, .bool false, ivT a b, .bool true, .bool true, ivT c d, .bool true, .bool true, .bool true, ptT (B + 1) 0, nuT c, .bool false, .bool false, ptT (B + 1) 0, nuT c, vc, ptT B 0, nuT a, va, .bool true, .bool true, .bool true, .bool true, ptT (B + 1) 1, undef, undef, undef, undef, undef, undef, undef, undef, undef, undef, undef, undef], defers := [] } _
            refine wpAny_ready (rs := [22]) (by kernel_rfl) (by simp) ?_
            refine AllReady.cons rfl (fun K hK => ?_) AllReady.nil
            go_simp
            refine hK _ _ ?_
            clear hK K
            change wpAny _ _ _ _ _ _ { tmps := #[ivT a b, ivT c d, ptT B 0, ptT (B + 1) 0, .bool false, ivT a b, .bool true, .bool true, ivT c d, .bool true, .bool true, .bool true, ptT (B + 1) 0, nuT c, .bool false, .bool false, ptT (B + 1) 0, nuT c, vc, ptT B 0, nuT a, va, .bool true, .bool true, .bool true, .bool true, ptT (B + 1) 1, nuT d, undef, undef, undef, undef, undef, undef, undef, undef, undef, undef, undef], defers := [] } _
            refine wpAny_take (i := 23) (v := .bool true) rfl (by kernel_rfl) (by kernel_rfl) (by kernel_rfl) (fun _ _ _ h => h) (Or.inl ⟨by rfl, by intro w; first | (go_simp; done) | (go_simp; with_reducible rfl)⟩) ?_
            refine wpAny_take (i := 24) (v := .bool true) rfl (by kernel_rfl) (by kernel_rfl) (by kernel_rfl) (fun _ _ _ h => h) (Or.inl ⟨by rfl, by intro w; first | (go_simp; done) | (go_simp; with_reducible rfl)⟩) ?_
            change wpAny _ _ _ _ _ _ { tmps := #[ivT a b, ivT c d, ptT B 0, ptT (B + 1) 0, .bool false, ivT a b, .bool true, .bool true, ivT c d, .bool true, .bool true, .bool true, ptT (B + 1) 0, nuT c, .bool false, .bool false, ptT (B + 1) 0, nuT c, vc, ptT B 0, nuT a, va, .bool true, .bool true, .bool true, .bool true, ptT (B + 1) 1, nuT d, .bool true, .bool true, undef, undef, undef, undef, undef, undef, undef, undef, undef], defers := [] } _
            refine wpAny_off (i := 25) rfl (by kernel_rfl) (by kernel_rfl) (by kernel_rfl) (fun _ _ _ h => h) (by rfl) (by rfl) ?_
            refine wpAny_off (i := 26) rfl (by kernel_rfl) (by kernel_rfl) (by kernel_rfl) (fun _ _ _ h => h) (by rfl) (by rfl) ?_
            refine wpAny_off (i := 27) rfl (by kernel_rfl) (by kernel_rfl) (by kernel_rfl) (fun _ _ _ h => h) (by rfl) (by rfl) ?_
            refine wpAny_off (i := 28) rfl (by kernel_rfl) (by kernel_rfl) (by kernel_rfl) (fun _ _ _ h => h) (by rfl) (by rfl) ?_
            refine wpAny_off (i := 29) rfl (by kernel_rfl) (by kernel_rfl) (by kernel_rfl) (fun _ _ _ h => h) (by rfl) (by rfl) ?_
            refine wpAny_off (i := 30) rfl (by kernel_rfl) (by kernel_rfl) (by kernel_rfl) (fun _ _ _ h => h) (by rfl) (by rfl) ?_
            refine wpAny_off (i := 31) rfl (by kernel_rfl) (by kernel_rfl) (by kernel_rfl) (fun _ _ _ h => h) (by rfl) (by rfl) ?_
            refine wpAny_take (i := 32) (v := .bool true) rfl (by kernel_rfl) (by kernel_rfl) (by kernel_rfl) (fun _ _ _ h => h) (Or.inl ⟨by rfl, by intro w; first | (go_simp; done) | (go_simp; with_reducible rfl)⟩) ?_
            refine wpAny_take (i := 33) (v := .bool true) rfl (by kernel_rfl) (by kernel_rfl) (by kernel_rfl) (fun _ _ _ h => h) (Or.inl ⟨by rfl, by intro w; first | (go_simp; done) | (go_simp; with_reducible rfl)⟩) ?_
            change wpAny _ _ _ _ _ _ { tmps := #[ivT a b, ivT c d, ptT B 0, ptT (B + 1) 0, .bool false, ivT a b, .bool true, .bool true, ivT c d, .bool true, .bool true, .bool true, ptT (B + 1) 0, nuT c, .bool false, .bool false, ptT (B + 1) 0, nuT c, vc, ptT B 0, nuT a, va, .bool true, .bool true, .bool true, .bool true, ptT (B + 1) 1, nuT d, .bool true, .bool true, undef, undef, undef, undef, undef, undef, undef, .bool true, .bool true], defers := [] } _
            refine wpAny_ready (rs := [34]) (by kernel_rfl) (by simp) ?_
            refine AllReady.cons rfl (fun K hK => ?_) AllReady.nil
            go_simp
            refine hK _ _ ?_
            clear hK K
            refine wpAny_done (by kernel_rfl) ?_ _
            have HF := Lib.hid (HB.out.trans st)
            go_wp2
            go_ret
            exact ⟨rfl, HF.out⟩
        · go_simp
          refine hK _ _ ?_
          clear hK K
          change wpAny _ _ _ _ _ _ { tmps := #[ivT a b, ivT c d, ptT B 0, ptT (B + 1) 0, .bool false, ivT a b, .bool true, .bool true, ivT c d, .bool true, .bool true, .bool true, ptT (B + 1) 0, nuT c, .bool false, .bool false, ptT (B + 1) 0, undef, undef, ptT B 0, nuT a, undef, undef, undef, undef, undef, undef, undef, undef, undef, undef, undef, undef, undef, undef, undef, undef, undef, undef], defers := [] } _
          refine wpAny_ready (rs := [12]) (by kernel_rfl) (by simp) ?_
          refine AllReady.cons rfl (fun K hK => ?_) AllReady.nil
          go_simp
          refine hK _ _ ?_
          clear hK K
          change wpAny _ _ _ _ _ _ { tmps := #[ivT a b, ivT c d, ptT B 0, ptT (B + 1) 0, .bool false, ivT a b, .bool true, .bool true, ivT c d, .bool true, .bool true, .bool true, ptT (B + 1) 0, nuT c, .bool false, .bool false, ptT (B + 1) 0, nuT c, undef, ptT B 0, nuT a, undef, undef, undef, undef, undef, undef, undef, undef, undef, undef, undef, undef, undef, undef, undef, undef, undef, undef], defers := [] } _
          refine wpAny_ready (rs := [13]) (by kernel_rfl) (by simp) ?_
          refine AllReady.cons rfl (fun K hK => ?_) AllReady.nil
          go_simp
          go_wp2_with (go_at_call 85; (with_reducible refine (NC.out _ (HTV.out _ (by assumption))).mono ?_); rintro r wn ⟨vc, rfl, hvc, hE⟩; have st : Ext V wn := Ext.trans (by assumption) hE; clear hE; clear a0 a1 a2 a3; obtain ⟨⟨a0, a1⟩, a2, a3⟩ := HC.out _ st)
          first | (refine hK _ _ ?_; clear hK K) | skip
          change wpAny _ _ _ _ _ _ { tmps := #[ivT a b, ivT c d, ptT B 0, ptT (B + 1) 0, .bool false, ivT a b, .bool true, .bool true, ivT c d, .bool true, .bool true, .bool true, ptT (B + 1) 0, nuT c, .bool false, .bool false, ptT (B + 1) 0, nuT c, vc, ptT B 0, nuT a, undef, undef, undef, undef, undef, undef, undef, undef, undef, undef, undef, undef, undef, undef, undef, undef, undef, undef], defers := [] } _
          refine wpAny_ready (rs := [16]) (by kernel_rfl) (by simp) ?_
          refine AllReady.cons rfl (fun K hK => ?_) AllReady.nil
          go_simp
          go_wp2_with (go_at_call 85; (with_reducible refine (NA.out _ (HTV.out _ (by assumption))).mono ?_); rintro r wn ⟨va, rfl, hva, hE⟩; have st : Ext V wn := Ext.trans (by assumption) hE; have hvc := hvc.ext hE; clear hE; clear a0 a1 a2 a3; obtain ⟨⟨a0, a1⟩, a2, a3⟩ := HC.out _ st)
          first | (refine hK _ _ ?_; clear hK K) | skip
          change wpAny _ _ _ _ _ _ { tmps := #[ivT a b, ivT c d, ptT B 0, ptT (B + 1) 0, .bool false, ivT a b, .bool true, .bool true, ivT c d, .bool true, .bool true, .bool true, ptT (B + 1) 0, nuT c, .bool false, .bool false, ptT (B + 1) 0, nuT c, vc, ptT B 0, nuT a, va, undef, undef, undef, undef, undef, undef, undef, undef, undef, undef, undef, undef, undef, undef, undef, undef, undef], defers := [] } _
          refine wpAny_ready (rs := [17]) (by kernel_rfl) (by simp) ?_
          refine AllReady.cons rfl (fun K hK => ?_) AllReady.nil
          go_simp
          go_wp2_with (go_at_call 99; (refine (L1.out _ _ _ (by exact hvc) (by exact hva) (HTV.out _ (by assumption))).mono ?_); rintro r wn ⟨rfl, hE⟩; have st : Ext V wn := Ext.trans (by assumption) hE; clear hE; clear a0 a1 a2 a3; obtain ⟨⟨a0, a1⟩, a2, a3⟩ := HC.out _ st)
          first | (refine hK _ _ ?_; clear hK K) | skip
          change wpAny _ _ _ _ _ _ { tmps := #[ivT a b, ivT c d, ptT B 0, ptT (B + 1) 0, .bool false, ivT a b, .bool true, .bool true, ivT c d, .bool true, .bool true, .bool true, ptT (B + 1) 0, nuT c, .bool false, .bool false, ptT (B + 1) 0, nuT c, vc, ptT B 0, nuT a, va, .bool true, undef, undef, undef, undef, undef, undef, undef, undef, undef, undef, undef, undef, undef, undef, undef, undef], defers := [] } _
          refine wpAny_take (i := 18) (v := .bool true) rfl (by kernel_rfl) (by kernel_rfl) (by kernel_rfl) (fun _ _ _ h => h) (Or.inl ⟨by rfl, by intro w; first | (go_simp; done) | (go_simp; with_reducible rfl)⟩) ?_
          refine wpAny_take (i := 19) (v := .bool true) rfl (by kernel_rfl) (by kernel_rfl) (by kernel_rfl) (fun _ _ _ h => h) (Or.inl ⟨by rfl, by intro w; first | (go_simp; done) | (go_simp; with_reducible rfl)⟩) ?_
          refine wpAny_take (i := 20) (v := .bool true) rfl (by kernel_rfl) (by kernel_rfl) (by kernel_rfl) (fun _ _ _ h => h) (Or.inl ⟨by rfl, by intro w; first | (go_simp; done) | (go_simp; with_reducible rfl)⟩) ?_
          refine wpAny_take (i := 21) (v := ptT (B + 1) 1) rfl (by kernel_rfl) (by kernel_rfl) (by kernel_rfl) (fun _ _ _ h => h) (Or.inl ⟨by rfl, by intro w; first | (go_simp; done) | (go_simp; with_reducible rfl)⟩) ?_
          change wpAny _ _ _ _ _ _ { tmps := #[ivT a b, ivT c d, ptT B 0, ptT (B + 1) 0, .bool false, ivT a b, .bool true, .bool true, ivT c d, .bool true, .bool true, .bool true, ptT (B + 1) 0, nuT c, .bool false, .bool false, ptT (B + 1) 0, nuT c, vc, ptT B 0, nuT a, va, .bool true, .bool true, .bool true, .bool true, ptT (B + 1) 1, undef, undef, undef, undef, undef, undef, undef, undef, undef, undef, undef, undef], defers := [] } _
          refine wpAny_ready (rs := [22]) (by kernel_rfl) (by simp) ?_
          refine AllReady.cons rfl (fun K hK => ?_) AllReady.nil
          go_simp
          refine hK _ _ ?_
          clear hK K
          change wpAny _ _ _ _ _ _ { tmps := #[ivT a b, ivT c d, ptT B 0, ptT (B + 1) 0, .bool false, ivT a b, .bool true, .bool true, ivT c d, .bool true, .bool true, .bool true, ptT (B + 1) 0, nuT c, .bool false, .bool false, ptT (B + 1) 0, nuT c, vc, ptT B 0, nuT a, va, .bool true, .bool true, .bool true, .bool true, ptT (B + 1) 1, nuT d, undef, undef, undef, undef, undef, undef, undef, undef, undef, undef, undef], defers := [] } _
          refine wpAny_take (i := 23) (v := .bool true) rfl (by kernel_rfl) (by kernel_rfl) (by kernel_rfl) (fun _ _ _ h => h) (Or.inl ⟨by rfl, by intro w; first | (go_simp; done) | (go_simp; with_reducible rfl)⟩) ?_
          refine wpAny_take (i := 24) (v := .bool true) rfl (by kernel_rfl) (by kernel_rfl) (by kernel_rfl) (fun _ _ _ h => h) (Or.inl ⟨by rfl, by intro w; first | (go_simp; done) | (go_simp; with_reducible rfl)⟩) ?_
          change wpAny _ _ _ _ _ _ { tmps := #[ivT a b, ivT c d, ptT B 0, ptT (B + 1) 0, .bool false, ivT a b, .bool true, .bool true, ivT c d, .bool true, .bool true, .bool true, ptT (B + 1) 0, nuT c, .bool false, .bool false, ptT (B + 1) 0, nuT c, vc, ptT B 0, nuT a, va, .bool true, .bool true, .bool true, .bool true, ptT (B + 1) 1, nuT d, .bool true, .bool true, undef, undef, undef, undef, undef, undef, undef, undef, undef], defers := [] } _
          refine wpAny_off (i := 25) rfl (by kernel_rfl) (by kernel_rfl) (by kernel_rfl) (fun _ _ _ h => h) (by rfl) (by rfl) ?_
          refine wpAny_off (i := 26) rfl (by kernel_rfl) (by kernel_rfl) (by kernel_rfl) (fun _ _ _ h => h) (by rfl) (by rfl) ?_
          refine wpAny_off (i := 27) rfl (by kernel_rfl) (by kernel_rfl) (by kernel_rfl) (fun _ _ _ h => h) (by rfl) (by rfl) ?_
          refine wpAny_off (i := 28) rfl (by kernel_rfl) (by kernel_rfl) (by kernel_rfl) (fun _ _ _ h => h) (by rfl) (by rfl) ?_
          refine wpAny_off (i := 29) rfl (by kernel_rfl) (by kernel_rfl) (by kernel_rfl) (fun _ _ _ h => h) (by rfl) (by rfl) ?_
          refine wpAny_off (i := 30) rfl (by kernel_rfl) (by kernel_rfl) (by kernel_rfl) (fun _ _ _ h => h) (by rfl) (by rfl) ?_
          refine wpAny_off (i := 31) rfl (by kernel_rfl) (by kernel_rfl) (by kernel_rfl) (fun _ _ _ h => h) (by rfl) (by rfl) ?_
          refine wpAny_take (i := 32) (v := .bool true) rfl (by kernel_rfl) (by kernel_rfl) (by kernel_rfl) (fun _ _ _ h => h) (Or.inl ⟨by rfl, by intro w; first | (go_simp; done) | (go_simp; with_reducible rfl)⟩) ?_
          refine wpAny_take (i := 33) (v := .bool true) rfl (by kernel_rfl) (by kernel_rfl) (by kernel_rfl) (fun _ _ _ h => h) (Or.inl ⟨by rfl, by intro w; first | (go_simp; done) | (go_simp; with_reducible rfl)⟩) ?_
          change wpAny _ _ _ _ _ _ { tmps := #[ivT a b, ivT c d, ptT B 0, ptT (B + 1) 0, .bool false, ivT a b, .bool true, .bool true, ivT c d, .bool true, .bool true, .bool true, ptT (B + 1) 0, nuT c, .bool false, .bool false, ptT (B + 1) 0, nuT c, vc, ptT B 0, nuT a, va, .bool true, .bool true, .bool true, .bool true, ptT (B + 1) 1, nuT d, .bool true, .bool true, undef, undef, undef, undef, undef, undef, undef, .bool true, .bool true], defers := [] } _
          refine wpAny_ready (rs := [34]) (by kernel_rfl) (by simp) ?_
          refine AllReady.cons rfl (fun K hK => ?_) AllReady.nil
          go_simp
          refine hK _ _ ?_
          clear hK K
          refine wpAny_done (by kernel_rfl) ?_ _
          have HF := Lib.hid (HB.out.trans st)
          go_wp2
          go_ret
          exact ⟨rfl, HF.out⟩
      | false =>
        obtain rfl : l2 = z := by rw [← HZ.out]; simp
        go_region_held3 (fun wx => (wx.cell? ⟨B, 0, none⟩ = some (.int .u64 (a : Int)) ∧ wx.cell? ⟨B, 1, none⟩ = some (.int .u64 (b : Int))) ∧ (wx.cell? ⟨B + 1, 0, none⟩ = some (.int .u64 (c : Int)) ∧ wx.cell? ⟨B + 1, 1, none⟩ = some (.int .u64 (d : Int))))
          (first | exact HC.out _ (by assumption))
          (first
            | (go_at_call 16; (with_reducible refine (CX.out _).mono ?_); rintro r wn ⟨rfl, hE⟩; have st : Ext V wn := Ext.trans (by assumption) hE; clear hE)
            | (go_at_call 16; (with_reducible refine (CY.out _).mono ?_); rintro r wn ⟨rfl, hE⟩; have st : Ext V wn := Ext.trans (by assumption) hE; clear hE)
            | (go_at_call 85; (with_reducible refine (NC.out _ (HTV.out _ (by assumption))).mono ?_); rintro r wn ⟨vc, rfl, hvc, hE⟩; have st : Ext V wn := Ext.trans (by assumption) hE; clear hE)
            | (go_at_call 85; (with_reducible refine (NA.out _ (HTV.out _ (by assumption))).mono ?_); rintro r wn ⟨va, rfl, hva, hE⟩; have st : Ext V wn := Ext.trans (by assumption) hE; have hvc := hvc.ext hE; clear hE)
            | (go_at_call 99; (refine (L1.out _ _ _ (by exact hvc) (by exact hva) (HTV.out _ (by assumption))).mono ?_); rintro r wn ⟨rfl, hE⟩; have st : Ext V wn := Ext.trans (by assumption) hE; clear hE)
            | (go_at_call 85; (with_reducible refine (NB.out _ (HTV.out _ (by assumption))).mono ?_); rintro r wn ⟨vb, rfl, hvb, hE⟩; have st : Ext V wn := Ext.trans (by assumption) hE; clear hE)
            | (go_at_call 85; (with_reducible refine (ND.out _ (HTV.out _ (by assumption))).mono ?_); rintro r wn ⟨vd, rfl, hvd, hE⟩; have st : Ext V wn := Ext.trans (by assumption) hE; have hvb := hvb.ext hE; clear hE)
            | (go_at_call 99; (refine (L2.out _ _ _ (by exact hvb) (by exact hvd) (HTV.out _ (by assumption))).mono ?_); rintro r wn ⟨rfl, hE⟩; have st : Ext V wn := Ext.trans (by assumption) hE; clear hE))
        have HF := Lib.hid (HB.out.trans st)
        go_wp2
        go_ret
        exact ⟨rfl, HF.out⟩
end Go.Proofs.YtecaaklbhhjcjaaGreatDoor
