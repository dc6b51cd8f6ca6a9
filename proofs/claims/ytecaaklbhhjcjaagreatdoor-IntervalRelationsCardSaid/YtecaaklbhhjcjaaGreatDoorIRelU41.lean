import Derived.Test.YtecaaklbhhjcjaaGreatDoorIRelU29
import Derived.Test.YtecaaklbhhjcjaaGreatDoorIRelU34
namespace Go.Proofs.YtecaaklbhhjcjaaGreatDoor
open Go.RowKit

theorem num_less {a c : Nat} (la : a < 18446744073709551616) (lc : c < 18446744073709551616) (na : nanB a = false) (nc : nanB c = false) : lessN (numI a) (numD a) (numI c) (numD c) = decide (frank a < frank c) := by
  have e1 : frank 9218868437227405312 = 9218868437227405312 := by decide +kernel
  have e2 : frank 18442240474082181120 = -9218868437227405312 := by decide +kernel
  have ra := rank_le na
  have rc := rank_le nc
  have hra := rank_is_inf la
  have hrb := rank_is_ninf la
  have hrc := rank_is_inf lc
  have hrd := rank_is_ninf lc
  unfold lessN numI
  by_cases a1 : a = 9218868437227405312
  · rw [if_pos a1]
    have := hra.2 a1
    by_cases c1 : c = 9218868437227405312
    · have := hrc.2 c1
      rw [if_pos c1, if_pos (by omega)]
      exact decide_eq_decide.2 (by omega)
    · rw [if_neg c1]
      by_cases c2 : c = 18442240474082181120
      · have := hrd.2 c2
        rw [if_pos c2, if_pos (by omega)]
        exact decide_eq_decide.2 (by omega)
      · rw [if_neg c2, if_pos (by omega)]
        exact decide_eq_decide.2 (by omega)
  · rw [if_neg a1]
    have na1 : frank a ≠ 9218868437227405312 := fun h => a1 (hra.1 h)
    by_cases a2 : a = 18442240474082181120
    · rw [if_pos a2]
      have := hrb.2 a2
      by_cases c1 : c = 9218868437227405312
      · have := hrc.2 c1
        rw [if_pos c1, if_pos (by omega)]
        exact decide_eq_decide.2 (by omega)
      · rw [if_neg c1]
        by_cases c2 : c = 18442240474082181120
        · have := hrd.2 c2
          rw [if_pos c2, if_pos (by omega)]
          exact decide_eq_decide.2 (by omega)
        · have nc2 : frank c ≠ -9218868437227405312 := fun h => c2 (hrd.1 h)
          rw [if_neg c2, if_pos (by omega)]
          exact decide_eq_decide.2 (by omega)
    · rw [if_neg a2]
      have na2 : frank a ≠ -9218868437227405312 := fun h => a2 (hrb.1 h)
      by_cases c1 : c = 9218868437227405312
      · have := hrc.2 c1
        rw [if_pos c1, if_pos (by omega)]
        exact decide_eq_decide.2 (by omega)
      · rw [if_neg c1]
        by_cases c2 : c = 18442240474082181120
        · have := hrd.2 c2
          rw [if_pos c2, if_pos (by omega)]
          exact decide_eq_decide.2 (by omega)
        · rw [if_neg c2, if_neg (by omega)]
          have fa := fin_of la na a1 a2
          have fc := fin_of lc nc c1 c2
          unfold numD
          rw [if_neg a1, if_neg a2, if_neg c1, if_neg c2, sc_less fa fc]
          have s1 := fdy_some fa
          have s2 := fdy_some fc
          cases h1 : fdy a with
          | none => exact absurd h1 s1
          | some p => cases h2 : fdy c with
            | none => exact absurd h2 s2
            | some q => rfl

set_option maxRecDepth 100000 in
set_option maxHeartbeats 16000000 in
theorem refSubset_any (a b c d : Nat) (ha : a < 18446744073709551616) (hb : b < 18446744073709551616) (hc : c < 18446744073709551616) (hd : d < 18446744073709551616) (z : Bool) (hz : subF a b c d = z) (w : World) (hT : Table w) :
    Calls Tryz.prog 42 #[.agg #[.int .u64 (a : Int), .int .u64 (b : Int)], .agg #[.int .u64 (c : Int), .int .u64 (d : Int)]] w fun e w' => e = .returned (.bool z) ∧ Ext w w' := by
  obtain ⟨p, hp⟩ : ∃ p, validF a b = p := ⟨_, rfl⟩
  obtain ⟨q, hq⟩ : ∃ q, validF c d = q := ⟨_, rfl⟩
  have CX := Lib.hid (refValid_any a b ha hb p hp)
  have CY := Lib.hid (refValid_any c d hc hd q hq)
  obtain ⟨l1, hl1⟩ : ∃ l, lessN (numI a) (numD a) (numI c) (numD c) = l := ⟨_, rfl⟩
  obtain ⟨l2, hl2⟩ : ∃ l, lessN (numI d) (numD d) (numI b) (numD b) = l := ⟨_, rfl⟩
  have hzz : p = true → q = true → (!l1 && !l2) = z := by
    intro h1 h2
    rw [h1] at hp
    rw [h2] at hq
    obtain ⟨v1, v2, -, -, -⟩ := (valid_iff ha hb).1 hp
    obtain ⟨u1, u2, -, -, -⟩ := (valid_iff hc hd).1 hq
    rw [← hz, ← hl1, ← hl2, num_less ha hc v1 u1, num_less hd hb u2 v2]
    unfold subF
    rw [hp, hq, less_rank v1 u1, less_rank u2 v2]
    rfl
  have hz1 : p = false → z = false := fun h => by rw [← hz]; unfold subF; rw [hp, h]; rfl
  have hz2 : p = true → q = false → z = false := fun h1 h2 => by rw [← hz]; unfold subF; rw [hp, hq, h1, h2]; rfl
  have NA := Lib.hid (fun w hT => refNumOf_any a ha _ _ rfl rfl w hT)
  have NB := Lib.hid (fun w hT => refNumOf_any b hb _ _ rfl rfl w hT)
  have NC := Lib.hid (fun w hT => refNumOf_any c hc _ _ rfl rfl w hT)
  have ND := Lib.hid (fun w hT => refNumOf_any d hd _ _ rfl rfl w hT)
  have L1 := Lib.hid (fun u v w hu hv hT => refLess_any u v (numI a) (numI c) (numD a) (numD c) l1 hl1 w hu hv hT)
  have L2 := Lib.hid (fun u v w hu hv hT => refLess_any u v (numI d) (numI b) (numD d) (numD b) l2 hl2 w hu hv hT)
  have HZ := Lib.hid hzz
  have HZ1 := Lib.hid hz1
  have HZ2 := Lib.hid hz2
  have HT := Lib.hid hT
  clear hp hq hl1 hl2 hz hzz hz1 hz2 hT ha hb hc hd
  generalize numI a = ia at *
  generalize numI b = ib at *
  generalize numI c = ic at *
  generalize numI d = id at *
  generalize numD a = da at *
  generalize numD b = db at *
  generalize numD c = dc at *
  generalize numD d = dd at *
  go_enter Tryz.func42, Tryz.ntmps42
  go_upto_region 1 with fail
  obtain ⟨V, hW, hB, hx, hy, hsz⟩ := ibox_two w a b c d
  rw [← hW]
  clear hW
  have HB := Lib.hid hB
  generalize w.heap.size = B at hx hy ⊢
  clear hB hsz
  have HTV := Lib.hid (show ∀ wx, Ext V wx → Table wx from fun wx h => (HT.out.below HB.out).below h)
  have HC := Lib.hid (show ∀ wx, Ext V wx → (wx.cell? ⟨B, 0, none⟩ = some (.int .u64 (a : Int)) ∧ wx.cell? ⟨B, 1, none⟩ = some (.int .u64 (b : Int))) ∧ (wx.cell? ⟨B + 1, 0, none⟩ = some (.int .u64 (c : Int)) ∧ wx.cell? ⟨B + 1, 1, none⟩ = some (.int .u64 (d : Int))) from fun wx h => ⟨⟨(hx.below h).c0, (hx.below h).c1⟩, (hy.below h).c0, (hy.below h).c1⟩)
  clear hx hy
  obtain ⟨⟨a0, a1⟩, a2, a3⟩ := HC.out V (Ext.refl _)
  have st : Ext V V.drew := (Below.refl _ _).drew
  cases p with
  | false =>
    obtain rfl := HZ1.out rfl
    refine wp_region_any (by kernel_rfl) ?_
    change wpAny _ _ _ _ _ _ _ (World.drew _)
    refine wpAny_ready (rs := [0]) (by kernel_rfl) (by simp) ?_
    refine AllReady.cons rfl (fun K hK => ?_) AllReady.nil
    go_simp
    refine hK _ _ ?_
    clear hK K
    change wpAny _ _ _ _ _ _ { tmps := #[.agg #[.int .u64 (a : Int), .int .u64 (b : Int)], .agg #[.int .u64 (c : Int), .int .u64 (d : Int)], .pointer (some ⟨B, 0, none⟩), .pointer (some ⟨B + 1, 0, none⟩), .bool false, .agg #[.int .u64 (a : Int), .int .u64 (b : Int)], undef, undef, undef, undef, undef, undef, undef, undef, undef, undef, undef, undef, undef, undef, undef, undef, undef, undef, undef, undef, undef, undef, undef, undef, undef], defers := [] } _
    refine wpAny_ready (rs := [1]) (by kernel_rfl) (by simp) ?_
    refine AllReady.cons rfl (fun K hK => ?_) AllReady.nil
    go_simp
    go_wp2_with (go_at_call 16; (with_reducible refine (CX.out _).mono ?_); rintro r w1 ⟨rfl, hE⟩; have s1 : Ext V w1 := Ext.trans (by assumption) hE; clear hE; obtain ⟨⟨a0, a1⟩, a2, a3⟩ := HC.out _ s1)
    first | (refine hK _ _ ?_; clear hK K) | skip
    change wpAny _ _ _ _ _ _ { tmps := #[.agg #[.int .u64 (a : Int), .int .u64 (b : Int)], .agg #[.int .u64 (c : Int), .int .u64 (d : Int)], .pointer (some ⟨B, 0, none⟩), .pointer (some ⟨B + 1, 0, none⟩), .bool false, .agg #[.int .u64 (a : Int), .int .u64 (b : Int)], .bool false, undef, undef, undef, undef, undef, undef, undef, undef, undef, undef, undef, undef, undef, undef, undef, undef, undef, undef, undef, undef, undef, undef, undef, undef], defers := [] } _
    refine wpAny_take (i := 2) (v := .bool false) rfl (by kernel_rfl) (by kernel_rfl) (by kernel_rfl) (fun _ _ _ h => h) (Or.inl ⟨by rfl, by intro w; first | (go_simp; done) | (go_simp; with_reducible rfl)⟩) ?_
    change wpAny _ _ _ _ _ _ { tmps := #[.agg #[.int .u64 (a : Int), .int .u64 (b : Int)], .agg #[.int .u64 (c : Int), .int .u64 (d : Int)], .pointer (some ⟨B, 0, none⟩), .pointer (some ⟨B + 1, 0, none⟩), .bool false, .agg #[.int .u64 (a : Int), .int .u64 (b : Int)], .bool false, .bool false, undef, undef, undef, undef, undef, undef, undef, undef, undef, undef, undef, undef, undef, undef, undef, undef, undef, undef, undef, undef, undef, undef, undef], defers := [] } _
    refine wpAny_take (i := 3) (v := undef) rfl (by kernel_rfl) (by kernel_rfl) (by kernel_rfl) (fun _ _ _ h => h) (Or.inr ⟨by rfl, rfl⟩) ?_
    change wpAny _ _ _ _ _ _ { tmps := #[.agg #[.int .u64 (a : Int), .int .u64 (b : Int)], .agg #[.int .u64 (c : Int), .int .u64 (d : Int)], .pointer (some ⟨B, 0, none⟩), .pointer (some ⟨B + 1, 0, none⟩), .bool false, .agg #[.int .u64 (a : Int), .int .u64 (b : Int)], .bool false, .bool false, undef, undef, undef, undef, undef, undef, undef, undef, undef, undef, undef, undef, undef, undef, undef, undef, undef, undef, undef, undef, undef, undef, undef], defers := [] } _
    refine wpAny_take (i := 4) (v := undef) rfl (by kernel_rfl) (by kernel_rfl) (by kernel_rfl) (fun _ _ _ h => h) (Or.inr ⟨by rfl, rfl⟩) ?_
    change wpAny _ _ _ _ _ _ { tmps := #[.agg #[.int .u64 (a : Int), .int .u64 (b : Int)], .agg #[.int .u64 (c : Int), .int .u64 (d : Int)], .pointer (some ⟨B, 0, none⟩), .pointer (some ⟨B + 1, 0, none⟩), .bool false, .agg #[.int .u64 (a : Int), .int .u64 (b : Int)], .bool false, .bool false, undef, undef, undef, undef, undef, undef, undef, undef, undef, undef, undef, undef, undef, undef, undef, undef, undef, undef, undef, undef, undef, undef, undef], defers := [] } _
    refine wpAny_take (i := 5) (v := .bool false) rfl (by kernel_rfl) (by kernel_rfl) (by kernel_rfl) (fun _ _ _ h => h) (Or.inl ⟨by rfl, by intro w; first | (go_simp; done) | (go_simp; with_reducible rfl)⟩) ?_
    change wpAny _ _ _ _ _ _ { tmps := #[.agg #[.int .u64 (a : Int), .int .u64 (b : Int)], .agg #[.int .u64 (c : Int), .int .u64 (d : Int)], .pointer (some ⟨B, 0, none⟩), .pointer (some ⟨B + 1, 0, none⟩), .bool false, .agg #[.int .u64 (a : Int), .int .u64 (b : Int)], .bool false, .bool false, undef, undef, .bool false, undef, undef, undef, undef, undef, undef, undef, undef, undef, undef, undef, undef, undef, undef, undef, undef, undef, undef, undef, undef], defers := [] } _
    refine wpAny_take (i := 6) (v := .bool false) rfl (by kernel_rfl) (by kernel_rfl) (by kernel_rfl) (fun _ _ _ h => h) (Or.inl ⟨by rfl, by intro w; first | (go_simp; done) | (go_simp; with_reducible rfl)⟩) ?_
    change wpAny _ _ _ _ _ _ { tmps := #[.agg #[.int .u64 (a : Int), .int .u64 (b : Int)], .agg #[.int .u64 (c : Int), .int .u64 (d : Int)], .pointer (some ⟨B, 0, none⟩), .pointer (some ⟨B + 1, 0, none⟩), .bool false, .agg #[.int .u64 (a : Int), .int .u64 (b : Int)], .bool false, .bool false, undef, undef, .bool false, .bool false, undef, undef, undef, undef, undef, undef, undef, undef, undef, undef, undef, undef, undef, undef, undef, undef, undef, undef, undef], defers := [] } _
    refine wpAny_take (i := 7) (v := undef) rfl (by kernel_rfl) (by kernel_rfl) (by kernel_rfl) (fun _ _ _ h => h) (Or.inr ⟨by rfl, rfl⟩) ?_
    change wpAny _ _ _ _ _ _ { tmps := #[.agg #[.int .u64 (a : Int), .int .u64 (b : Int)], .agg #[.int .u64 (c : Int), .int .u64 (d : Int)], .pointer (some ⟨B, 0, none⟩), .pointer (some ⟨B + 1, 0, none⟩), .bool false, .agg #[.int .u64 (a : Int), .int .u64 (b : Int)], .bool false, .bool false, undef, undef, .bool false, .bool false, undef, undef, undef, undef, undef, undef, undef, undef, undef, undef, undef, undef, undef, undef, undef, undef, undef, undef, undef], defers := [] } _
    refine wpAny_take (i := 8) (v := undef) rfl (by kernel_rfl) (by kernel_rfl) (by kernel_rfl) (fun _ _ _ h => h) (Or.inr ⟨by rfl, rfl⟩) ?_
    change wpAny _ _ _ _ _ _ { tmps := #[.agg #[.int .u64 (a : Int), .int .u64 (b : Int)], .agg #[.int .u64 (c : Int), .int .u64 (d : Int)], .pointer (some ⟨B, 0, none⟩), .pointer (some ⟨B + 1, 0, none⟩), .bool false, .agg #[.int .u64 (a : Int), .int .u64 (b : Int)], .bool false, .bool false, undef, undef, .bool false, .bool false, undef, undef, undef, undef, undef, undef, undef, undef, undef, undef, undef, undef, undef, undef, undef, undef, undef, undef, undef], defers := [] } _
    refine wpAny_take (i := 9) (v := undef) rfl (by kernel_rfl) (by kernel_rfl) (by kernel_rfl) (fun _ _ _ h => h) (Or.inr ⟨by rfl, rfl⟩) ?_
    change wpAny _ _ _ _ _ _ { tmps := #[.agg #[.int .u64 (a : Int), .int .u64 (b : Int)], .agg #[.int .u64 (c : Int), .int .u64 (d : Int)], .pointer (some ⟨B, 0, none⟩), .pointer (some ⟨B + 1, 0, none⟩), .bool false, .agg #[.int .u64 (a : Int), .int .u64 (b : Int)], .bool false, .bool false, undef, undef, .bool false, .bool false, undef, undef, undef, undef, undef, undef, undef, undef, undef, undef, undef, undef, undef, undef, undef, undef, undef, undef, undef], defers := [] } _
    refine wpAny_take (i := 10) (v := undef) rfl (by kernel_rfl) (by kernel_rfl) (by kernel_rfl) (fun _ _ _ h => h) (Or.inr ⟨by rfl, rfl⟩) ?_
    change wpAny _ _ _ _ _ _ { tmps := #[.agg #[.int .u64 (a : Int), .int .u64 (b : Int)], .agg #[.int .u64 (c : Int), .int .u64 (d : Int)], .pointer (some ⟨B, 0, none⟩), .pointer (some ⟨B + 1, 0, none⟩), .bool false, .agg #[.int .u64 (a : Int), .int .u64 (b : Int)], .bool false, .bool false, undef, undef, .bool false, .bool false, undef, undef, undef, undef, undef, undef, undef, undef, undef, undef, undef, undef, undef, undef, undef, undef, undef, undef, undef], defers := [] } _
    refine wpAny_take (i := 11) (v := undef) rfl (by kernel_rfl) (by kernel_rfl) (by kernel_rfl) (fun _ _ _ h => h) (Or.inr ⟨by rfl, rfl⟩) ?_
    change wpAny _ _ _ _ _ _ { tmps := #[.agg #[.int .u64 (a : Int), .int .u64 (b : Int)], .agg #[.int .u64 (c : Int), .int .u64 (d : Int)], .pointer (some ⟨B, 0, none⟩), .pointer (some ⟨B + 1, 0, none⟩), .bool false, .agg #[.int .u64 (a : Int), .int .u64 (b : Int)], .bool false, .bool false, undef, undef, .bool false, .bool false, undef, undef, undef, undef, undef, undef, undef, undef, undef, undef, undef, undef, undef, undef, undef, undef, undef, undef, undef], defers := [] } _
    refine wpAny_take (i := 12) (v := undef) rfl (by kernel_rfl) (by kernel_rfl) (by kernel_rfl) (fun _ _ _ h => h) (Or.inr ⟨by rfl, rfl⟩) ?_
    change wpAny _ _ _ _ _ _ { tmps := #[.agg #[.int .u64 (a : Int), .int .u64 (b : Int)], .agg #[.int .u64 (c : Int), .int .u64 (d : Int)], .pointer (some ⟨B, 0, none⟩), .pointer (some ⟨B + 1, 0, none⟩), .bool false, .agg #[.int .u64 (a : Int), .int .u64 (b : Int)], .bool false, .bool false, undef, undef, .bool false, .bool false, undef, undef, undef, undef, undef, undef, undef, undef, undef, undef, undef, undef, undef, undef, undef, undef, undef, undef, undef], defers := [] } _
    refine wpAny_take (i := 13) (v := undef) rfl (by kernel_rfl) (by kernel_rfl) (by kernel_rfl) (fun _ _ _ h => h) (Or.inr ⟨by rfl, rfl⟩) ?_
    change wpAny _ _ _ _ _ _ { tmps := #[.agg #[.int .u64 (a : Int), .int .u64 (b : Int)], .agg #[.int .u64 (c : Int), .int .u64 (d : Int)], .pointer (some ⟨B, 0, none⟩), .pointer (some ⟨B + 1, 0, none⟩), .bool false, .agg #[.int .u64 (a : Int), .int .u64 (b : Int)], .bool false, .bool false, undef, undef, .bool false, .bool false, undef, undef, undef, undef, undef, undef, undef, undef, undef, undef, undef, undef, undef, undef, undef, undef, undef, undef, undef], defers := [] } _
    refine wpAny_take (i := 14) (v := undef) rfl (by kernel_rfl) (by kernel_rfl) (by kernel_rfl) (fun _ _ _ h => h) (Or.inr ⟨by rfl, rfl⟩) ?_
    change wpAny _ _ _ _ _ _ { tmps := #[.agg #[.int .u64 (a : Int), .int .u64 (b : Int)], .agg #[.int .u64 (c : Int), .int .u64 (d : Int)], .pointer (some ⟨B, 0, none⟩), .pointer (some ⟨B + 1, 0, none⟩), .bool false, .agg #[.int .u64 (a : Int), .int .u64 (b : Int)], .bool false, .bool false, undef, undef, .bool false, .bool false, undef, undef, undef, undef, undef, undef, undef, undef, undef, undef, undef, undef, undef, undef, undef, undef, undef, undef, undef], defers := [] } _
    refine wpAny_take (i := 15) (v := .bool false) rfl (by kernel_rfl) (by kernel_rfl) (by kernel_rfl) (fun _ _ _ h => h) (Or.inl ⟨by rfl, by intro w; first | (go_simp; done) | (go_simp; with_reducible rfl)⟩) ?_
    change wpAny _ _ _ _ _ _ { tmps := #[.agg #[.int .u64 (a : Int), .int .u64 (b : Int)], .agg #[.int .u64 (c : Int), .int .u64 (d : Int)], .pointer (some ⟨B, 0, none⟩), .pointer (some ⟨B + 1, 0, none⟩), .bool false, .agg #[.int .u64 (a : Int), .int .u64 (b : Int)], .bool false, .bool false, undef, undef, .bool false, .bool false, undef, undef, undef, undef, undef, undef, undef, undef, .bool false, undef, undef, undef, undef, undef, undef, undef, undef, undef, undef], defers := [] } _
    refine wpAny_take (i := 16) (v := .bool false) rfl (by kernel_rfl) (by kernel_rfl) (by kernel_rfl) (fun _ _ _ h => h) (Or.inl ⟨by rfl, by intro w; first | (go_simp; done) | (go_simp; with_reducible rfl)⟩) ?_
    change wpAny _ _ _ _ _ _ { tmps := #[.agg #[.int .u64 (a : Int), .int .u64 (b : Int)], .agg #[.int .u64 (c : Int), .int .u64 (d : Int)], .pointer (some ⟨B, 0, none⟩), .pointer (some ⟨B + 1, 0, none⟩), .bool false, .agg #[.int .u64 (a : Int), .int .u64 (b : Int)], .bool false, .bool false, undef, undef, .bool false, .bool false, undef, undef, undef, undef, undef, undef, undef, undef, .bool false, .bool false, undef, undef, undef, undef, undef, undef, undef, undef, undef], defers := [] } _
    refine wpAny_take (i := 17) (v := undef) rfl (by kernel_rfl) (by kernel_rfl) (by kernel_rfl) (fun _ _ _ h => h) (Or.inr ⟨by rfl, rfl⟩) ?_
    change wpAny _ _ _ _ _ _ { tmps := #[.agg #[.int .u64 (a : Int), .int .u64 (b : Int)], .agg #[.int .u64 (c : Int), .int .u64 (d : Int)], .pointer (some ⟨B, 0, none⟩), .pointer (some ⟨B + 1, 0, none⟩), .bool false, .agg #[.int .u64 (a : Int), .int .u64 (b : Int)], .bool false, .bool false, undef, undef, .bool false, .bool false, undef, undef, undef, undef, undef, undef, undef, undef, .bool false, .bool false, undef, undef, undef, undef, undef, undef, undef, undef, undef], defers := [] } _
    refine wpAny_take (i := 18) (v := undef) rfl (by kernel_rfl) (by kernel_rfl) (by kernel_rfl) (fun _ _ _ h => h) (Or.inr ⟨by rfl, rfl⟩) ?_
    change wpAny _ _ _ _ _ _ { tmps := #[.agg #[.int .u64 (a : Int), .int .u64 (b : Int)], .agg #[.int .u64 (c : Int), .int .u64 (d : Int)], .pointer (some ⟨B, 0, none⟩), .pointer (some ⟨B + 1, 0, none⟩), .bool false, .agg #[.int .u64 (a : Int), .int .u64 (b : Int)], .bool false, .bool false, undef, undef, .bool false, .bool false, undef, undef, undef, undef, undef, undef, undef, undef, .bool false, .bool false, undef, undef, undef, undef, undef, undef, undef, undef, undef], defers := [] } _
    refine wpAny_take (i := 19) (v := undef) rfl (by kernel_rfl) (by kernel_rfl) (by kernel_rfl) (fun _ _ _ h => h) (Or.inr ⟨by rfl, rfl⟩) ?_
    change wpAny _ _ _ _ _ _ { tmps := #[.agg #[.int .u64 (a : Int), .int .u64 (b : Int)], .agg #[.int .u64 (c : Int), .int .u64 (d : Int)], .pointer (some ⟨B, 0, none⟩), .pointer (some ⟨B + 1, 0, none⟩), .bool false, .agg #[.int .u64 (a : Int), .int .u64 (b : Int)], .bool false, .bool false, undef, undef, .bool false, .bool false, undef, undef, undef, undef, undef, undef, undef, undef, .bool false, .bool false, undef, undef, undef, undef, undef, undef, undef, undef, undef], defers := [] } _
    refine wpAny_take (i := 20) (v := undef) rfl (by kernel_rfl) (by kernel_rfl) (by kernel_rfl) (fun _ _ _ h => h) (Or.inr ⟨by rfl, rfl⟩) ?_
    change wpAny _ _ _ _ _ _ { tmps := #[.agg #[.int .u64 (a : Int), .int .u64 (b : Int)], .agg #[.int .u64 (c : Int), .int .u64 (d : Int)], .pointer (some ⟨B, 0, none⟩), .pointer (some ⟨B + 1, 0, none⟩), .bool false, .agg #[.int .u64 (a : Int), .int .u64 (b : Int)], .bool false, .bool false, undef, undef, .bool false, .bool false, undef, undef, undef, undef, undef, undef, undef, undef, .bool false, .bool false, undef, undef, undef, undef, undef, undef, undef, undef, undef], defers := [] } _
    refine wpAny_take (i := 21) (v := undef) rfl (by kernel_rfl) (by kernel_rfl) (by kernel_rfl) (fun _ _ _ h => h) (Or.inr ⟨by rfl, rfl⟩) ?_
    change wpAny _ _ _ _ _ _ { tmps := #[.agg #[.int .u64 (a : Int), .int .u64 (b : Int)], .agg #[.int .u64 (c : Int), .int .u64 (d : Int)], .pointer (some ⟨B, 0, none⟩), .pointer (some ⟨B + 1, 0, none⟩), .bool false, .agg #[.int .u64 (a : Int), .int .u64 (b : Int)], .bool false, .bool false, undef, undef, .bool false, .bool false, undef, undef, undef, undef, undef, undef, undef, undef, .bool false, .bool false, undef, undef, undef, undef, undef, undef, undef, undef, undef], defers := [] } _
    refine wpAny_take (i := 22) (v := undef) rfl (by kernel_rfl) (by kernel_rfl) (by kernel_rfl) (fun _ _ _ h => h) (Or.inr ⟨by rfl, rfl⟩) ?_
    change wpAny _ _ _ _ _ _ { tmps := #[.agg #[.int .u64 (a : Int), .int .u64 (b : Int)], .agg #[.int .u64 (c : Int), .int .u64 (d : Int)], .pointer (some ⟨B, 0, none⟩), .pointer (some ⟨B + 1, 0, none⟩), .bool false, .agg #[.int .u64 (a : Int), .int .u64 (b : Int)], .bool false, .bool false, undef, undef, .bool false, .bool false, undef, undef, undef, undef, undef, undef, undef, undef, .bool false, .bool false, undef, undef, undef, undef, undef, undef, undef, undef, undef], defers := [] } _
    refine wpAny_take (i := 23) (v := undef) rfl (by kernel_rfl) (by kernel_rfl) (by kernel_rfl) (fun _ _ _ h => h) (Or.inr ⟨by rfl, rfl⟩) ?_
    change wpAny _ _ _ _ _ _ { tmps := #[.agg #[.int .u64 (a : Int), .int .u64 (b : Int)], .agg #[.int .u64 (c : Int), .int .u64 (d : Int)], .pointer (some ⟨B, 0, none⟩), .pointer (some ⟨B + 1, 0, none⟩), .bool false, .agg #[.int .u64 (a : Int), .int .u64 (b : Int)], .bool false, .bool false, undef, undef, .bool false, .bool false, undef, undef, undef, undef, undef, undef, undef, undef, .bool false, .bool false, undef, undef, undef, undef, undef, undef, undef, undef, undef], defers := [] } _
    refine wpAny_take (i := 24) (v := undef) rfl (by kernel_rfl) (by kernel_rfl) (by kernel_rfl) (fun _ _ _ h => h) (Or.inr ⟨by rfl, rfl⟩) ?_
    change wpAny _ _ _ _ _ _ { tmps := #[.agg #[.int .u64 (a : Int), .int .u64 (b : Int)], .agg #[.int .u64 (c : Int), .int .u64 (d : Int)], .pointer (some ⟨B, 0, none⟩), .pointer (some ⟨B + 1, 0, none⟩), .bool false, .agg #[.int .u64 (a : Int), .int .u64 (b : Int)], .bool false, .bool false, undef, undef, .bool false, .bool false, undef, undef, undef, undef, undef, undef, undef, undef, .bool false, .bool false, undef, undef, undef, undef, undef, undef, undef, undef, undef], defers := [] } _
    refine wpAny_take (i := 25) (v := .bool false) rfl (by kernel_rfl) (by kernel_rfl) (by kernel_rfl) (fun _ _ _ h => h) (Or.inl ⟨by rfl, by intro w; first | (go_simp; done) | (go_simp; with_reducible rfl)⟩) ?_
    change wpAny _ _ _ _ _ _ { tmps := #[.agg #[.int .u64 (a : Int), .int .u64 (b : Int)], .agg #[.int .u64 (c : Int), .int .u64 (d : Int)], .pointer (some ⟨B, 0, none⟩), .pointer (some ⟨B + 1, 0, none⟩), .bool false, .agg #[.int .u64 (a : Int), .int .u64 (b : Int)], .bool false, .bool false, undef, undef, .bool false, .bool false, undef, undef, undef, undef, undef, undef, undef, undef, .bool false, .bool false, undef, undef, undef, undef, undef, undef, undef, undef, .bool false], defers := [] } _
    refine wpAny_ready (rs := [26]) (by kernel_rfl) (by simp) ?_
    refine AllReady.cons rfl (fun K hK => ?_) AllReady.nil
    go_simp
    refine hK _ _ ?_
    clear hK K
    refine wpAny_done (by kernel_rfl) ?_ _
    have HF := Lib.hid (HB.out.trans s1)
    go_wp2
    go_ret
    exact ⟨rfl, HF.out⟩
  | true =>
    cases q with
    | false =>
      obtain rfl := HZ2.out rfl rfl
      refine wp_region_any (by kernel_rfl) ?_
      change wpAny _ _ _ _ _ _ _ (World.drew _)
      refine wpAny_ready (rs := [0]) (by kernel_rfl) (by simp) ?_
      refine AllReady.cons rfl (fun K hK => ?_) AllReady.nil
      go_simp
      refine hK _ _ ?_
      clear hK K
      change wpAny _ _ _ _ _ _ { tmps := #[.agg #[.int .u64 (a : Int), .int .u64 (b : Int)], .agg #[.int .u64 (c : Int), .int .u64 (d : Int)], .pointer (some ⟨B, 0, none⟩), .pointer (some ⟨B + 1, 0, none⟩), .bool false, .agg #[.int .u64 (a : Int), .int .u64 (b : Int)], undef, undef, undef, undef, undef, undef, undef, undef, undef, undef, undef, undef, undef, undef, undef, undef, undef, undef, undef, undef, undef, undef, undef, undef, undef], defers := [] } _
      refine wpAny_ready (rs := [1]) (by kernel_rfl) (by simp) ?_
      refine AllReady.cons rfl (fun K hK => ?_) AllReady.nil
      go_simp
      go_wp2_with (go_at_call 16; (with_reducible refine (CX.out _).mono ?_); rintro r w1 ⟨rfl, hE⟩; have s1 : Ext V w1 := Ext.trans (by assumption) hE; clear hE; obtain ⟨⟨a0, a1⟩, a2, a3⟩ := HC.out _ s1)
      first | (refine hK _ _ ?_; clear hK K) | skip
      change wpAny _ _ _ _ _ _ { tmps := #[.agg #[.int .u64 (a : Int), .int .u64 (b : Int)], .agg #[.int .u64 (c : Int), .int .u64 (d : Int)], .pointer (some ⟨B, 0, none⟩), .pointer (some ⟨B + 1, 0, none⟩), .bool false, .agg #[.int .u64 (a : Int), .int .u64 (b : Int)], .bool true, undef, undef, undef, undef, undef, undef, undef, undef, undef, undef, undef, undef, undef, undef, undef, undef, undef, undef, undef, undef, undef, undef, undef, undef], defers := [] } _
      refine wpAny_take (i := 2) (v := .bool true) rfl (by kernel_rfl) (by kernel_rfl) (by kernel_rfl) (fun _ _ _ h => h) (Or.inl ⟨by rfl, by intro w; first | (go_simp; done) | (go_simp; with_reducible rfl)⟩) ?_
      change wpAny _ _ _ _ _ _ { tmps := #[.agg #[.int .u64 (a : Int), .int .u64 (b : Int)], .agg #[.int .u64 (c : Int), .int .u64 (d : Int)], .pointer (some ⟨B, 0, none⟩), .pointer (some ⟨B + 1, 0, none⟩), .bool false, .agg #[.int .u64 (a : Int), .int .u64 (b : Int)], .bool true, .bool true, undef, undef, undef, undef, undef, undef, undef, undef, undef, undef, undef, undef, undef, undef, undef, undef, undef, undef, undef, undef, undef, undef, undef], defers := [] } _
      refine wpAny_ready (rs := [3]) (by kernel_rfl) (by simp) ?_
      refine AllReady.cons rfl (fun K hK => ?_) AllReady.nil
      go_simp
      refine hK _ _ ?_
      clear hK K
      change wpAny _ _ _ _ _ _ { tmps := #[.agg #[.int .u64 (a : Int), .int .u64 (b : Int)], .agg #[.int .u64 (c : Int), .int .u64 (d : Int)], .pointer (some ⟨B, 0, none⟩), .pointer (some ⟨B + 1, 0, none⟩), .bool false, .agg #[.int .u64 (a : Int), .int .u64 (b : Int)], .bool true, .bool true, .agg #[.int .u64 (c : Int), .int .u64 (d : Int)], undef, undef, undef, undef, undef, undef, undef, undef, undef, undef, undef, undef, undef, undef, undef, undef, undef, undef, undef, undef, undef, undef], defers := [] } _
      refine wpAny_ready (rs := [4]) (by kernel_rfl) (by simp) ?_
      refine AllReady.cons rfl (fun K hK => ?_) AllReady.nil
      go_simp
      go_wp2_with (go_at_call 16; (with_reducible refine (CY.out _).mono ?_); rintro r w2 ⟨rfl, hE⟩; have s2 : Ext V w2 := Ext.trans (by assumption) hE; clear hE; obtain ⟨⟨a0, a1⟩, a2, a3⟩ := HC.out _ s2)
      first | (refine hK _ _ ?_; clear hK K) | skip
      change wpAny _ _ _ _ _ _ { tmps := #[.agg #[.int .u64 (a : Int), .int .u64 (b : Int)], .agg #[.int .u64 (c : Int), .int .u64 (d : Int)], .pointer (some ⟨B, 0, none⟩), .pointer (some ⟨B + 1, 0, none⟩), .bool false, .agg #[.int .u64 (a : Int), .int .u64 (b : Int)], .bool true, .bool true, .agg #[.int .u64 (c : Int), .int .u64 (d : Int)], .bool false, undef, undef, undef, undef, undef, undef, undef, undef, undef, undef, undef, undef, undef, undef, undef, undef, undef, undef, undef, undef, undef], defers := [] } _
      refine wpAny_take (i := 5) (v := .bool false) rfl (by kernel_rfl) (by kernel_rfl) (by kernel_rfl) (fun _ _ _ h => h) (Or.inl ⟨by rfl, by intro w; first | (go_simp; done) | (go_simp; with_reducible rfl)⟩) ?_
      change wpAny _ _ _ _ _ _ { tmps := #[.agg #[.int .u64 (a : Int), .int .u64 (b : Int)], .agg #[.int .u64 (c : Int), .int .u64 (d : Int)], .pointer (some ⟨B, 0, none⟩), .pointer (some ⟨B + 1, 0, none⟩), .bool false, .agg #[.int .u64 (a : Int), .int .u64 (b : Int)], .bool true, .bool true, .agg #[.int .u64 (c : Int), .int .u64 (d : Int)], .bool false, .bool false, undef, undef, undef, undef, undef, undef, undef, undef, undef, undef, undef, undef, undef, undef, undef, undef, undef, undef, undef, undef], defers := [] } _
      refine wpAny_take (i := 6) (v := .bool false) rfl (by kernel_rfl) (by kernel_rfl) (by kernel_rfl) (fun _ _ _ h => h) (Or.inl ⟨by rfl, by intro w; first | (go_simp; done) | (go_simp; with_reducible rfl)⟩) ?_
      change wpAny _ _ _ _ _ _ { tmps := #[.agg #[.int .u64 (a : Int), .int .u64 (b : Int)], .agg #[.int .u64 (c : Int), .int .u64 (d : Int)], .pointer (some ⟨B, 0, none⟩), .pointer (some ⟨B + 1, 0, none⟩), .bool false, .agg #[.int .u64 (a : Int), .int .u64 (b : Int)], .bool true, .bool true, .agg #[.int .u64 (c : Int), .int .u64 (d : Int)], .bool false, .bool false, .bool false, undef, undef, undef, undef, undef, undef, undef, undef, undef, undef, undef, undef, undef, undef, undef, undef, undef, undef, undef], defers := [] } _
      refine wpAny_take (i := 7) (v := undef) rfl (by kernel_rfl) (by kernel_rfl) (by kernel_rfl) (fun _ _ _ h => h) (Or.inr ⟨by rfl, rfl⟩) ?_
      change wpAny _ _ _ _ _ _ { tmps := #[.agg #[.int .u64 (a : Int), .int .u64 (b : Int)], .agg #[.int .u64 (c : Int), .int .u64 (d : Int)], .pointer (some ⟨B, 0, none⟩), .pointer (some ⟨B + 1, 0, none⟩), .bool false, .agg #[.int .u64 (a : Int), .int .u64 (b : Int)], .bool true, .bool true, .agg #[.int .u64 (c : Int), .int .u64 (d : Int)], .bool false, .bool false, .bool false, undef, undef, undef, undef, undef, undef, undef, undef, undef, undef, undef, undef, undef, undef, undef, undef, undef, undef, undef], defers := [] } _
      refine wpAny_take (i := 8) (v := undef) rfl (by kernel_rfl) (by kernel_rfl) (by kernel_rfl) (fun _ _ _ h => h) (Or.inr ⟨by rfl, rfl⟩) ?_
      change wpAny _ _ _ _ _ _ { tmps := #[.agg #[.int .u64 (a : Int), .int .u64 (b : Int)], .agg #[.int .u64 (c : Int), .int .u64 (d : Int)], .pointer (some ⟨B, 0, none⟩), .pointer (some ⟨B + 1, 0, none⟩), .bool false, .agg #[.int .u64 (a : Int), .int .u64 (b : Int)], .bool true, .bool true, .agg #[.int .u64 (c : Int), .int .u64 (d : Int)], .bool false, .bool false, .bool false, undef, undef, undef, undef, undef, undef, undef, undef, undef, undef, undef, undef, undef, undef, undef, undef, undef, undef, undef], defers := [] } _
      refine wpAny_take (i := 9) (v := undef) rfl (by kernel_rfl) (by kernel_rfl) (by kernel_rfl) (fun _ _ _ h => h) (Or.inr ⟨by rfl, rfl⟩) ?_
      change wpAny _ _ _ _ _ _ { tmps := #[.agg #[.int .u64 (a : Int), .int .u64 (b : Int)], .agg #[.int .u64 (c : Int), .int .u64 (d : Int)], .pointer (some ⟨B, 0, none⟩), .pointer (some ⟨B + 1, 0, none⟩), .bool false, .agg #[.int .u64 (a : Int), .int .u64 (b : Int)], .bool true, .bool true, .agg #[.int .u64 (c : Int), .int .u64 (d : Int)], .bool false, .bool false, .bool false, undef, undef, undef, undef, undef, undef, undef, undef, undef, undef, undef, undef, undef, undef, undef, undef, undef, undef, undef], defers := [] } _
      refine wpAny_take (i := 10) (v := undef) rfl (by kernel_rfl) (by kernel_rfl) (by kernel_rfl) (fun _ _ _ h => h) (Or.inr ⟨by rfl, rfl⟩) ?_
      change wpAny _ _ _ _ _ _ { tmps := #[.agg #[.int .u64 (a : Int), .int .u64 (b : Int)], .agg #[.int .u64 (c : Int), .int .u64 (d : Int)], .pointer (some ⟨B, 0, none⟩), .pointer (some ⟨B + 1, 0, none⟩), .bool false, .agg #[.int .u64 (a : Int), .int .u64 (b : Int)], .bool true, .bool true, .agg #[.int .u64 (c : Int), .int .u64 (d : Int)], .bool false, .bool false, .bool false, undef, undef, undef, undef, undef, undef, undef, undef, undef, undef, undef, undef, undef, undef, undef, undef, undef, undef, undef], defers := [] } _
      refine wpAny_take (i := 11) (v := undef) rfl (by kernel_rfl) (by kernel_rfl) (by kernel_rfl) (fun _ _ _ h => h) (Or.inr ⟨by rfl, rfl⟩) ?_
      change wpAny _ _ _ _ _ _ { tmps := #[.agg #[.int .u64 (a : Int), .int .u64 (b : Int)], .agg #[.int .u64 (c : Int), .int .u64 (d : Int)], .pointer (some ⟨B, 0, none⟩), .pointer (some ⟨B + 1, 0, none⟩), .bool false, .agg #[.int .u64 (a : Int), .int .u64 (b : Int)], .bool true, .bool true, .agg #[.int .u64 (c : Int), .int .u64 (d : Int)], .bool false, .bool false, .bool false, undef, undef, undef, undef, undef, undef, undef, undef, undef, undef, undef, undef, undef, undef, undef, undef, undef, undef, undef], defers := [] } _
      refine wpAny_take (i := 12) (v := undef) rfl (by kernel_rfl) (by kernel_rfl) (by kernel_rfl) (fun _ _ _ h => h) (Or.inr ⟨by rfl, rfl⟩) ?_
      change wpAny _ _ _ _ _ _ { tmps := #[.agg #[.int .u64 (a : Int), .int .u64 (b : Int)], .agg #[.int .u64 (c : Int), .int .u64 (d : Int)], .pointer (some ⟨B, 0, none⟩), .pointer (some ⟨B + 1, 0, none⟩), .bool false, .agg #[.int .u64 (a : Int), .int .u64 (b : Int)], .bool true, .bool true, .agg #[.int .u64 (c : Int), .int .u64 (d : Int)], .bool false, .bool false, .bool false, undef, undef, undef, undef, undef, undef, undef, undef, undef, undef, undef, undef, undef, undef, undef, undef, undef, undef, undef], defers := [] } _
      refine wpAny_take (i := 13) (v := undef) rfl (by kernel_rfl) (by kernel_rfl) (by kernel_rfl) (fun _ _ _ h => h) (Or.inr ⟨by rfl, rfl⟩) ?_
      change wpAny _ _ _ _ _ _ { tmps := #[.agg #[.int .u64 (a : Int), .int .u64 (b : Int)], .agg #[.int .u64 (c : Int), .int .u64 (d : Int)], .pointer (some ⟨B, 0, none⟩), .pointer (some ⟨B + 1, 0, none⟩), .bool false, .agg #[.int .u64 (a : Int), .int .u64 (b : Int)], .bool true, .bool true, .agg #[.int .u64 (c : Int), .int .u64 (d : Int)], .bool false, .bool false, .bool false, undef, undef, undef, undef, undef, undef, undef, undef, undef, undef, undef, undef, undef, undef, undef, undef, undef, undef, undef], defers := [] } _
      refine wpAny_take (i := 14) (v := undef) rfl (by kernel_rfl) (by kernel_rfl) (by kernel_rfl) (fun _ _ _ h => h) (Or.inr ⟨by rfl, rfl⟩) ?_
      change wpAny _ _ _ _ _ _ { tmps := #[.agg #[.int .u64 (a : Int), .int .u64 (b : Int)], .agg #[.int .u64 (c : Int), .int .u64 (d : Int)], .pointer (some ⟨B, 0, none⟩), .pointer (some ⟨B + 1, 0, none⟩), .bool false, .agg #[.int .u64 (a : Int), .int .u64 (b : Int)], .bool true, .bool true, .agg #[.int .u64 (c : Int), .int .u64 (d : Int)], .bool false, .bool false, .bool false, undef, undef, undef, undef, undef, undef, undef, undef, undef, undef, undef, undef, undef, undef, undef, undef, undef, undef, undef], defers := [] } _
      refine wpAny_take (i := 15) (v := .bool false) rfl (by kernel_rfl) (by kernel_rfl) (by kernel_rfl) (fun _ _ _ h => h) (Or.inl ⟨by rfl, by intro w; first | (go_simp; done) | (go_simp; with_reducible rfl)⟩) ?_
      change wpAny _ _ _ _ _ _ { tmps := #[.agg #[.int .u64 (a : Int), .int .u64 (b : Int)], .agg #[.int .u64 (c : Int), .int .u64 (d : Int)], .pointer (some ⟨B, 0, none⟩), .pointer (some ⟨B + 1, 0, none⟩), .bool false, .agg #[.int .u64 (a : Int), .int .u64 (b : Int)], .bool true, .bool true, .agg #[.int .u64 (c : Int), .int .u64 (d : Int)], .bool false, .bool false, .bool false, undef, undef, undef, undef, undef, undef, undef, undef, .bool false, undef, undef, undef, undef, undef, undef, undef, undef, undef, undef], defers := [] } _
      refine wpAny_take (i := 16) (v := .bool false) rfl (by kernel_rfl) (by kernel_rfl) (by kernel_rfl) (fun _ _ _ h => h) (Or.inl ⟨by rfl, by intro w; first | (go_simp; done) | (go_simp; with_reducible rfl)⟩) ?_
      change wpAny _ _ _ _ _ _ { tmps := #[.agg #[.int .u64 (a : Int), .int .u64 (b : Int)], .agg #[.int .u64 (c : Int), .int .u64 (d : Int)], .pointer (some ⟨B, 0, none⟩), .pointer (some ⟨B + 1, 0, none⟩), .bool false, .agg #[.int .u64 (a : Int), .int .u64 (b : Int)], .bool true, .bool true, .agg #[.int .u64 (c : Int), .int .u64 (d : Int)], .bool false, .bool false, .bool false, undef, undef, undef, undef, undef, undef, undef, undef, .bool false, .bool false, undef, undef, undef, undef, undef, undef, undef, undef, undef], defers := [] } _
      refine wpAny_take (i := 17) (v := undef) rfl (by kernel_rfl) (by kernel_rfl) (by kernel_rfl) (fun _ _ _ h => h) (Or.inr ⟨by rfl, rfl⟩) ?_
      change wpAny _ _ _ _ _ _ { tmps := #[.agg #[.int .u64 (a : Int), .int .u64 (b : Int)], .agg #[.int .u64 (c : Int), .int .u64 (d : Int)], .pointer (some ⟨B, 0, none⟩), .pointer (some ⟨B + 1, 0, none⟩), .bool false, .agg #[.int .u64 (a : Int), .int .u64 (b : Int)], .bool true, .bool true, .agg #[.int .u64 (c : Int), .int .u64 (d : Int)], .bool false, .bool false, .bool false, undef, undef, undef, undef, undef, undef, undef, undef, .bool false, .bool false, undef, undef, undef, undef, undef, undef, undef, undef, undef], defers := [] } _
      refine wpAny_take (i := 18) (v := undef) rfl (by kernel_rfl) (by kernel_rfl) (by kernel_rfl) (fun _ _ _ h => h) (Or.inr ⟨by rfl, rfl⟩) ?_
      change wpAny _ _ _ _ _ _ { tmps := #[.agg #[.int .u64 (a : Int), .int .u64 (b : Int)], .agg #[.int .u64 (c : Int), .int .u64 (d : Int)], .pointer (some ⟨B, 0, none⟩), .pointer (some ⟨B + 1, 0, none⟩), .bool false, .agg #[.int .u64 (a : Int), .int .u64 (b : Int)], .bool true, .bool true, .agg #[.int .u64 (c : Int), .int .u64 (d : Int)], .bool false, .bool false, .bool false, undef, undef, undef, undef, undef, undef, undef, undef, .bool false, .bool false, undef, undef, undef, undef, undef, undef, undef, undef, undef], defers := [] } _
      refine wpAny_take (i := 19) (v := undef) rfl (by kernel_rfl) (by kernel_rfl) (by kernel_rfl) (fun _ _ _ h => h) (Or.inr ⟨by rfl, rfl⟩) ?_
      change wpAny _ _ _ _ _ _ { tmps := #[.agg #[.int .u64 (a : Int), .int .u64 (b : Int)], .agg #[.int .u64 (c : Int), .int .u64 (d : Int)], .pointer (some ⟨B, 0, none⟩), .pointer (some ⟨B + 1, 0, none⟩), .bool false, .agg #[.int .u64 (a : Int), .int .u64 (b : Int)], .bool true, .bool true, .agg #[.int .u64 (c : Int), .int .u64 (d : Int)], .bool false, .bool false, .bool false, undef, undef, undef, undef, undef, undef, undef, undef, .bool false, .bool false, undef, undef, undef, undef, undef, undef, undef, undef, undef], defers := [] } _
      refine wpAny_take (i := 20) (v := undef) rfl (by kernel_rfl) (by kernel_rfl) (by kernel_rfl) (fun _ _ _ h => h) (Or.inr ⟨by rfl, rfl⟩) ?_
      change wpAny _ _ _ _ _ _ { tmps := #[.agg #[.int .u64 (a : Int), .int .u64 (b : Int)], .agg #[.int .u64 (c : Int), .int .u64 (d : Int)], .pointer (some ⟨B, 0, none⟩), .pointer (some ⟨B + 1, 0, none⟩), .bool false, .agg #[.int .u64 (a : Int), .int .u64 (b : Int)], .bool true, .bool true, .agg #[.int .u64 (c : Int), .int .u64 (d : Int)], .bool false, .bool false, .bool false, undef, undef, undef, undef, undef, undef, undef, undef, .bool false, .bool false, undef, undef, undef, undef, undef, undef, undef, undef, undef], defers := [] } _
      refine wpAny_take (i := 21) (v := undef) rfl (by kernel_rfl) (by kernel_rfl) (by kernel_rfl) (fun _ _ _ h => h) (Or.inr ⟨by rfl, rfl⟩) ?_
      change wpAny _ _ _ _ _ _ { tmps := #[.agg #[.int .u64 (a : Int), .int .u64 (b : Int)], .agg #[.int .u64 (c : Int), .int .u64 (d : Int)], .pointer (some ⟨B, 0, none⟩), .pointer (some ⟨B + 1, 0, none⟩), .bool false, .agg #[.int .u64 (a : Int), .int .u64 (b : Int)], .bool true, .bool true, .agg #[.int .u64 (c : Int), .int .u64 (d : Int)], .bool false, .bool false, .bool false, undef, undef, undef, undef, undef, undef, undef, undef, .bool false, .bool false, undef, undef, undef, undef, undef, undef, undef, undef, undef], defers := [] } _
      refine wpAny_take (i := 22) (v := undef) rfl (by kernel_rfl) (by kernel_rfl) (by kernel_rfl) (fun _ _ _ h => h) (Or.inr ⟨by rfl, rfl⟩) ?_
      change wpAny _ _ _ _ _ _ { tmps := #[.agg #[.int .u64 (a : Int), .int .u64 (b : Int)], .agg #[.int .u64 (c : Int), .int .u64 (d : Int)], .pointer (some ⟨B, 0, none⟩), .pointer (some ⟨B + 1, 0, none⟩), .bool false, .agg #[.int .u64 (a : Int), .int .u64 (b : Int)], .bool true, .bool true, .agg #[.int .u64 (c : Int), .int .u64 (d : Int)], .bool false, .bool false, .bool false, undef, undef, undef, undef, undef, undef, undef, undef, .bool false, .bool false, undef, undef, undef, undef, undef, undef, undef, undef, undef], defers := [] } _
      refine wpAny_take (i := 23) (v := undef) rfl (by kernel_rfl) (by kernel_rfl) (by kernel_rfl) (fun _ _ _ h => h) (Or.inr ⟨by rfl, rfl⟩) ?_
      change wpAny _ _ _ _ _ _ { tmps := #[.agg #[.int .u64 (a : Int), .int .u64 (b : Int)], .agg #[.int .u64 (c : Int), .int .u64 (d : Int)], .pointer (some ⟨B, 0, none⟩), .pointer (some ⟨B + 1, 0, none⟩), .bool false, .agg #[.int .u64 (a : Int), .int .u64 (b : Int)], .bool true, .bool true, .agg #[.int .u64 (c : Int), .int .u64 (d : Int)], .bool false, .bool false, .bool false, undef, undef, undef, undef, undef, undef, undef, undef, .bool false, .bool false, undef, undef, undef, undef, undef, undef, undef, undef, undef], defers := [] } _
      refine wpAny_take (i := 24) (v := undef) rfl (by kernel_rfl) (by kernel_rfl) (by kernel_rfl) (fun _ _ _ h => h) (Or.inr ⟨by rfl, rfl⟩) ?_
      change wpAny _ _ _ _ _ _ { tmps := #[.agg #[.int .u64 (a : Int), .int .u64 (b : Int)], .agg #[.int .u64 (c : Int), .int .u64 (d : Int)], .pointer (some ⟨B, 0, none⟩), .pointer (some ⟨B + 1, 0, none⟩), .bool false, .agg #[.int .u64 (a : Int), .int .u64 (b : Int)], .bool true, .bool true, .agg #[.int .u64 (c : Int), .int .u64 (d : Int)], .bool false, .bool false, .bool false, undef, undef, undef, undef, undef, undef, undef, undef, .bool false, .bool false, undef, undef, undef, undef, undef, undef, undef, undef, undef], defers := [] } _
      refine wpAny_take (i := 25) (v := .bool false) rfl (by kernel_rfl) (by kernel_rfl) (by kernel_rfl) (fun _ _ _ h => h) (Or.inl ⟨by rfl, by intro w; first | (go_simp; done) | (go_simp; with_reducible rfl)⟩) ?_
      change wpAny _ _ _ _ _ _ { tmps := #[.agg #[.int .u64 (a : Int), .int .u64 (b : Int)], .agg #[.int .u64 (c : Int), .int .u64 (d : Int)], .pointer (some ⟨B, 0, none⟩), .pointer (some ⟨B + 1, 0, none⟩), .bool false, .agg #[.int .u64 (a : Int), .int .u64 (b : Int)], .bool true, .bool true, .agg #[.int .u64 (c : Int), .int .u64 (d : Int)], .bool false, .bool false, .bool false, undef, undef, undef, undef, undef, undef, undef, undef, .bool false, .bool false, undef, undef, undef, undef, undef, undef, undef, undef, .bool false], defers := [] } _
      refine wpAny_ready (rs := [26]) (by kernel_rfl) (by simp) ?_
      refine AllReady.cons rfl (fun K hK => ?_) AllReady.nil
      go_simp
      refine hK _ _ ?_
      clear hK K
      refine wpAny_done (by kernel_rfl) ?_ _
      have HF := Lib.hid (HB.out.trans s2)
      go_wp2
      go_ret
      exact ⟨rfl, HF.out⟩
    | true =>
      have HZ := Lib.hid (HZ.out rfl rfl)
      cases l1 with
      | true =>
        obtain rfl : z = false := HZ.out.symm
        refine wp_region_any (by kernel_rfl) ?_
        change wpAny _ _ _ _ _ _ _ (World.drew _)
        refine wpAny_ready (rs := [0]) (by kernel_rfl) (by simp) ?_
        refine AllReady.cons rfl (fun K hK => ?_) AllReady.nil
        go_simp
        refine hK _ _ ?_
        clear hK K
        change wpAny _ _ _ _ _ _ { tmps := #[.agg #[.int .u64 (a : Int), .int .u64 (b : Int)], .agg #[.int .u64 (c : Int), .int .u64 (d : Int)], .pointer (some ⟨B, 0, none⟩), .pointer (some ⟨B + 1, 0, none⟩), .bool false, .agg #[.int .u64 (a : Int), .int .u64 (b : Int)], undef, undef, undef, undef, undef, undef, undef, undef, undef, undef, undef, undef, undef, undef, undef, undef, undef, undef, undef, undef, undef, undef, undef, undef, undef], defers := [] } _
        refine wpAny_ready (rs := [1]) (by kernel_rfl) (by simp) ?_
        refine AllReady.cons rfl (fun K hK => ?_) AllReady.nil
        go_simp
        go_wp2_with (go_at_call 16; (with_reducible refine (CX.out _).mono ?_); rintro r w1 ⟨rfl, hE⟩; have s1 : Ext V w1 := Ext.trans (by assumption) hE; clear hE; obtain ⟨⟨a0, a1⟩, a2, a3⟩ := HC.out _ s1)
        first | (refine hK _ _ ?_; clear hK K) | skip
        change wpAny _ _ _ _ _ _ { tmps := #[.agg #[.int .u64 (a : Int), .int .u64 (b : Int)], .agg #[.int .u64 (c : Int), .int .u64 (d : Int)], .pointer (some ⟨B, 0, none⟩), .pointer (some ⟨B + 1, 0, none⟩), .bool false, .agg #[.int .u64 (a : Int), .int .u64 (b : Int)], .bool true, undef, undef, undef, undef, undef, undef, undef, undef, undef, undef, undef, undef, undef, undef, undef, undef, undef, undef, undef, undef, undef, undef, undef, undef], defers := [] } _
        refine wpAny_take (i := 2) (v := .bool true) rfl (by kernel_rfl) (by kernel_rfl) (by kernel_rfl) (fun _ _ _ h => h) (Or.inl ⟨by rfl, by intro w; first | (go_simp; done) | (go_simp; with_reducible rfl)⟩) ?_
        change wpAny _ _ _ _ _ _ { tmps := #[.agg #[.int .u64 (a : Int), .int .u64 (b : Int)], .agg #[.int .u64 (c : Int), .int .u64 (d : Int)], .pointer (some ⟨B, 0, none⟩), .pointer (some ⟨B + 1, 0, none⟩), .bool false, .agg #[.int .u64 (a : Int), .int .u64 (b : Int)], .bool true, .bool true, undef, undef, undef, undef, undef, undef, undef, undef, undef, undef, undef, undef, undef, undef, undef, undef, undef, undef, undef, undef, undef, undef, undef], defers := [] } _
        refine wpAny_ready (rs := [3]) (by kernel_rfl) (by simp) ?_
        refine AllReady.cons rfl (fun K hK => ?_) AllReady.nil
        go_simp
        refine hK _ _ ?_
        clear hK K
        change wpAny _ _ _ _ _ _ { tmps := #[.agg #[.int .u64 (a : Int), .int .u64 (b : Int)], .agg #[.int .u64 (c : Int), .int .u64 (d : Int)], .pointer (some ⟨B, 0, none⟩), .pointer (some ⟨B + 1, 0, none⟩), .bool false, .agg #[.int .u64 (a : Int), .int .u64 (b : Int)], .bool true, .bool true, .agg #[.int .u64 (c : Int), .int .u64 (d : Int)], undef, undef, undef, undef, undef, undef, undef, undef, undef, undef, undef, undef, undef, undef, undef, undef, undef, undef, undef, undef, undef, undef], defers := [] } _
        refine wpAny_ready (rs := [4]) (by kernel_rfl) (by simp) ?_
        refine AllReady.cons rfl (fun K hK => ?_) AllReady.nil
        go_simp
        go_wp2_with (go_at_call 16; (with_reducible refine (CY.out _).mono ?_); rintro r w2 ⟨rfl, hE⟩; have s2 : Ext V w2 := Ext.trans (by assumption) hE; clear hE; obtain ⟨⟨a0, a1⟩, a2, a3⟩ := HC.out _ s2)
        first | (refine hK _ _ ?_; clear hK K) | skip
        change wpAny _ _ _ _ _ _ { tmps := #[.agg #[.int .u64 (a : Int), .int .u64 (b : Int)], .agg #[.int .u64 (c : Int), .int .u64 (d : Int)], .pointer (some ⟨B, 0, none⟩), .pointer (some ⟨B + 1, 0, none⟩), .bool false, .agg #[.int .u64 (a : Int), .int .u64 (b : Int)], .bool true, .bool true, .agg #[.int .u64 (c : Int), .int .u64 (d : Int)], .bool true, undef, undef, undef, undef, undef, undef, undef, undef, undef, undef, undef, undef, undef, undef, undef, undef, undef, undef, undef, undef, undef], defers := [] } _
        refine wpAny_take (i := 5) (v := .bool true) rfl (by kernel_rfl) (by kernel_rfl) (by kernel_rfl) (fun _ _ _ h => h) (Or.inl ⟨by rfl, by intro w; first | (go_simp; done) | (go_simp; with_reducible rfl)⟩) ?_
        change wpAny _ _ _ _ _ _ { tmps := #[.agg #[.int .u64 (a : Int), .int .u64 (b : Int)], .agg #[.int .u64 (c : Int), .int .u64 (d : Int)], .pointer (some ⟨B, 0, none⟩), .pointer (some ⟨B + 1, 0, none⟩), .bool false, .agg #[.int .u64 (a : Int), .int .u64 (b : Int)], .bool true, .bool true, .agg #[.int .u64 (c : Int), .int .u64 (d : Int)], .bool true, .bool true, undef, undef, undef, undef, undef, undef, undef, undef, undef, undef, undef, undef, undef, undef, undef, undef, undef, undef, undef, undef], defers := [] } _
        refine wpAny_take (i := 6) (v := .bool true) rfl (by kernel_rfl) (by kernel_rfl) (by kernel_rfl) (fun _ _ _ h => h) (Or.inl ⟨by rfl, by intro w; first | (go_simp; done) | (go_simp; with_reducible rfl)⟩) ?_
        change wpAny _ _ _ _ _ _ { tmps := #[.agg #[.int .u64 (a : Int), .int .u64 (b : Int)], .agg #[.int .u64 (c : Int), .int .u64 (d : Int)], .pointer (some ⟨B, 0, none⟩), .pointer (some ⟨B + 1, 0, none⟩), .bool false, .agg #[.int .u64 (a : Int), .int .u64 (b : Int)], .bool true, .bool true, .agg #[.int .u64 (c : Int), .int .u64 (d : Int)], .bool true, .bool true, .bool true, undef, undef, undef, undef, undef, undef, undef, undef, undef, undef, undef, undef, undef, undef, undef, undef, undef, undef, undef], defers := [] } _
        refine wpAny_take (i := 7) (v := .pointer (some ⟨B, 0, none⟩)) rfl (by kernel_rfl) (by kernel_rfl) (by kernel_rfl) (fun _ _ _ h => h) (Or.inl ⟨by rfl, by intro w; first | (go_simp; done) | (go_simp; with_reducible rfl)⟩) ?_
        change wpAny _ _ _ _ _ _ { tmps := #[.agg #[.int .u64 (a : Int), .int .u64 (b : Int)], .agg #[.int .u64 (c : Int), .int .u64 (d : Int)], .pointer (some ⟨B, 0, none⟩), .pointer (some ⟨B + 1, 0, none⟩), .bool false, .agg #[.int .u64 (a : Int), .int .u64 (b : Int)], .bool true, .bool true, .agg #[.int .u64 (c : Int), .int .u64 (d : Int)], .bool true, .bool true, .bool true, .pointer (some ⟨B, 0, none⟩), undef, undef, undef, undef, undef, undef, undef, undef, undef, undef, undef, undef, undef, undef, undef, undef, undef, undef], defers := [] } _
        refine wpAny_take (i := 10) (v := .pointer (some ⟨B + 1, 0, none⟩)) rfl (by kernel_rfl) (by kernel_rfl) (by kernel_rfl) (fun _ _ _ h => h) (Or.inl ⟨by rfl, by intro w; first | (go_simp; done) | (go_simp; with_reducible rfl)⟩) ?_
        change wpAny _ _ _ _ _ _ { tmps := #[.agg #[.int .u64 (a : Int), .int .u64 (b : Int)], .agg #[.int .u64 (c : Int), .int .u64 (d : Int)], .pointer (some ⟨B, 0, none⟩), .pointer (some ⟨B + 1, 0, none⟩), .bool false, .agg #[.int .u64 (a : Int), .int .u64 (b : Int)], .bool true, .bool true, .agg #[.int .u64 (c : Int), .int .u64 (d : Int)], .bool true, .bool true, .bool true, .pointer (some ⟨B, 0, none⟩), undef, undef, .pointer (some ⟨B + 1, 0, none⟩), undef, undef, undef, undef, undef, undef, undef, undef, undef, undef, undef, undef, undef, undef, undef], defers := [] } _
        refine wpAny_ready (rs := [8, 11]) (by kernel_rfl) (by simp) ?_
        refine AllReady.cons rfl (fun K hK => ?_) (AllReady.cons rfl (fun K hK => ?_) AllReady.nil)
        · go_simp
          refine hK _ _ ?_
          clear hK K
          change wpAny _ _ _ _ _ _ { tmps := #[.agg #[.int .u64 (a : Int), .int .u64 (b : Int)], .agg #[.int .u64 (c : Int), .int .u64 (d : Int)], .pointer (some ⟨B, 0, none⟩), .pointer (some ⟨B + 1, 0, none⟩), .bool false, .agg #[.int .u64 (a : Int), .int .u64 (b : Int)], .bool true, .bool true, .agg #[.int .u64 (c : Int), .int .u64 (d : Int)], .bool true, .bool true, .bool true, .pointer (some ⟨B, 0, none⟩), .int .u64 (a : Int), undef, .pointer (some ⟨B + 1, 0, none⟩), undef, undef, undef, undef, undef, undef, undef, undef, undef, undef, undef, undef, undef, undef, undef], defers := [] } _
          refine wpAny_ready (rs := [9, 11]) (by kernel_rfl) (by simp) ?_
          refine AllReady.cons rfl (fun K hK => ?_) (AllReady.cons rfl (fun K hK => ?_) AllReady.nil)
          · go_simp
            go_wp2_with (go_at_call 85; (with_reducible refine (NA.out _ (HTV.out _ (by assumption))).mono ?_); rintro r w3 ⟨va, rfl, hva, hE⟩; have s3 : Ext V w3 := Ext.trans (by assumption) hE; clear hE; obtain ⟨⟨a0, a1⟩, a2, a3⟩ := HC.out _ s3)
            first | (refine hK _ _ ?_; clear hK K) | skip
            change wpAny _ _ _ _ _ _ { tmps := #[.agg #[.int .u64 (a : Int), .int .u64 (b : Int)], .agg #[.int .u64 (c : Int), .int .u64 (d : Int)], .pointer (some ⟨B, 0, none⟩), .pointer (some ⟨B + 1, 0, none⟩), .bool false, .agg #[.int .u64 (a : Int), .int .u64 (b : Int)], .bool true, .bool true, .agg #[.int .u64 (c : Int), .int .u64 (d : Int)], .bool true, .bool true, .bool true, .pointer (some ⟨B, 0, none⟩), .int .u64 (a : Int), va, .pointer (some ⟨B + 1, 0, none⟩), undef, undef, undef, undef, undef, undef, undef, undef, undef, undef, undef, undef, undef, undef, undef], defers := [] } _
            refine wpAny_ready (rs := [11]) (by kernel_rfl) (by simp) ?_
            refine AllReady.cons rfl (fun K hK => ?_) AllReady.nil
            go_simp
            refine hK _ _ ?_
            clear hK K
            change wpAny _ _ _ _ _ _ { tmps := #[.agg #[.int .u64 (a : Int), .int .u64 (b : Int)], .agg #[.int .u64 (c : Int), .int .u64 (d : Int)], .pointer (some ⟨B, 0, none⟩), .pointer (some ⟨B + 1, 0, none⟩), .bool false, .agg #[.int .u64 (a : Int), .int .u64 (b : Int)], .bool true, .bool true, .agg #[.int .u64 (c : Int), .int .u64 (d : Int)], .bool true, .bool true, .bool true, .pointer (some ⟨B, 0, none⟩), .int .u64 (a : Int), va, .pointer (some ⟨B + 1, 0, none⟩), .int .u64 (c : Int), undef, undef, undef, undef, undef, undef, undef, undef, undef, undef, undef, undef, undef, undef], defers := [] } _
            refine wpAny_ready (rs := [12]) (by kernel_rfl) (by simp) ?_
            refine AllReady.cons rfl (fun K hK => ?_) AllReady.nil
            go_simp
            go_wp2_with (go_at_call 85; (with_reducible refine (NC.out _ (HTV.out _ (by assumption))).mono ?_); rintro r w4 ⟨vc, rfl, hvc, hE⟩; have s4 : Ext V w4 := Ext.trans (by assumption) hE; have hva := hva.ext hE; clear hE; obtain ⟨⟨a0, a1⟩, a2, a3⟩ := HC.out _ s4)
            first | (refine hK _ _ ?_; clear hK K) | skip
            change wpAny _ _ _ _ _ _ { tmps := #[.agg #[.int .u64 (a : Int), .int .u64 (b : Int)], .agg #[.int .u64 (c : Int), .int .u64 (d : Int)], .pointer (some ⟨B, 0, none⟩), .pointer (some ⟨B + 1, 0, none⟩), .bool false, .agg #[.int .u64 (a : Int), .int .u64 (b : Int)], .bool true, .bool true, .agg #[.int .u64 (c : Int), .int .u64 (d : Int)], .bool true, .bool true, .bool true, .pointer (some ⟨B, 0, none⟩), .int .u64 (a : Int), va, .pointer (some ⟨B + 1, 0, none⟩), .int .u64 (c : Int), vc, undef, undef, undef, undef, undef, undef, undef, undef, undef, undef, undef, undef, undef], defers := [] } _
            refine wpAny_ready (rs := [13]) (by kernel_rfl) (by simp) ?_
            refine AllReady.cons rfl (fun K hK => ?_) AllReady.nil
            go_simp
            go_wp2_with (go_at_call 99; (refine (L1.out _ _ _ (by exact hva) (by exact hvc) (HTV.out _ (by assumption))).mono ?_); rintro r w5 ⟨rfl, hE⟩; have s5 : Ext V w5 := Ext.trans (by assumption) hE; clear hE; obtain ⟨⟨a0, a1⟩, a2, a3⟩ := HC.out _ s5)
            first | (refine hK _ _ ?_; clear hK K) | skip
            change wpAny _ _ _ _ _ _ { tmps := #[.agg #[.int .u64 (a : Int), .int .u64 (b : Int)], .agg #[.int .u64 (c : Int), .int .u64 (d : Int)], .pointer (some ⟨B, 0, none⟩), .pointer (some ⟨B + 1, 0, none⟩), .bool false, .agg #[.int .u64 (a : Int), .int .u64 (b : Int)], .bool true, .bool true, .agg #[.int .u64 (c : Int), .int .u64 (d : Int)], .bool true, .bool true, .bool true, .pointer (some ⟨B, 0, none⟩), .int .u64 (a : Int), va, .pointer (some ⟨B + 1, 0, none⟩), .int .u64 (c : Int), vc, .bool true, undef, undef, undef, undef, undef, undef, undef, undef, undef, undef, undef, undef], defers := [] } _
            refine wpAny_take (i := 14) (v := .bool false) rfl (by kernel_rfl) (by kernel_rfl) (by kernel_rfl) (fun _ _ _ h => h) (Or.inl ⟨by rfl, by intro w; first | (go_simp; done) | (go_simp; with_reducible rfl)⟩) ?_
            change wpAny _ _ _ _ _ _ { tmps := #[.agg #[.int .u64 (a : Int), .int .u64 (b : Int)], .agg #[.int .u64 (c : Int), .int .u64 (d : Int)], .pointer (some ⟨B, 0, none⟩), .pointer (some ⟨B + 1, 0, none⟩), .bool false, .agg #[.int .u64 (a : Int), .int .u64 (b : Int)], .bool true, .bool true, .agg #[.int .u64 (c : Int), .int .u64 (d : Int)], .bool true, .bool true, .bool true, .pointer (some ⟨B, 0, none⟩), .int .u64 (a : Int), va, .pointer (some ⟨B + 1, 0, none⟩), .int .u64 (c : Int), vc, .bool true, .bool false, undef, undef, undef, undef, undef, undef, undef, undef, undef, undef, undef], defers := [] } _
            refine wpAny_take (i := 15) (v := .bool false) rfl (by kernel_rfl) (by kernel_rfl) (by kernel_rfl) (fun _ _ _ h => h) (Or.inl ⟨by rfl, by intro w; first | (go_simp; done) | (go_simp; with_reducible rfl)⟩) ?_
            change wpAny _ _ _ _ _ _ { tmps := #[.agg #[.int .u64 (a : Int), .int .u64 (b : Int)], .agg #[.int .u64 (c : Int), .int .u64 (d : Int)], .pointer (some ⟨B, 0, none⟩), .pointer (some ⟨B + 1, 0, none⟩), .bool false, .agg #[.int .u64 (a : Int), .int .u64 (b : Int)], .bool true, .bool true, .agg #[.int .u64 (c : Int), .int .u64 (d : Int)], .bool true, .bool true, .bool true, .pointer (some ⟨B, 0, none⟩), .int .u64 (a : Int), va, .pointer (some ⟨B + 1, 0, none⟩), .int .u64 (c : Int), vc, .bool true, .bool false, .bool false, undef, undef, undef, undef, undef, undef, undef, undef, undef, undef], defers := [] } _
            refine wpAny_take (i := 16) (v := .bool false) rfl (by kernel_rfl) (by kernel_rfl) (by kernel_rfl) (fun _ _ _ h => h) (Or.inl ⟨by rfl, by intro w; first | (go_simp; done) | (go_simp; with_reducible rfl)⟩) ?_
            change wpAny _ _ _ _ _ _ { tmps := #[.agg #[.int .u64 (a : Int), .int .u64 (b : Int)], .agg #[.int .u64 (c : Int), .int .u64 (d : Int)], .pointer (some ⟨B, 0, none⟩), .pointer (some ⟨B + 1, 0, none⟩), .bool false, .agg #[.int .u64 (a : Int), .int .u64 (b : Int)], .bool true, .bool true, .agg #[.int .u64 (c : Int), .int .u64 (d : Int)], .bool true, .bool true, .bool true, .pointer (some ⟨B, 0, none⟩), .int .u64 (a : Int), va, .pointer (some ⟨B + 1, 0, none⟩), .int .u64 (c : Int), vc, .bool true, .bool false, .bool false, .bool false, undef, undef, undef, undef, undef, undef, undef, undef, undef], defers := [] } _
            refine wpAny_take (i := 17) (v := undef) rfl (by kernel_rfl) (by kernel_rfl) (by kernel_rfl) (fun _ _ _ h => h) (Or.inr ⟨by rfl, rfl⟩) ?_
            change wpAny _ _ _ _ _ _ { tmps := #[.agg #[.int .u64 (a : Int), .int .u64 (b : Int)], .agg #[.int .u64 (c : Int), .int .u64 (d : Int)], .pointer (some ⟨B, 0, none⟩), .pointer (some ⟨B + 1, 0, none⟩), .bool false, .agg #[.int .u64 (a : Int), .int .u64 (b : Int)], .bool true, .bool true, .agg #[.int .u64 (c : Int), .int .u64 (d : Int)], .bool true, .bool true, .bool true, .pointer (some ⟨B, 0, none⟩), .int .u64 (a : Int), va, .pointer (some ⟨B + 1, 0, none⟩), .int .u64 (c : Int), vc, .bool true, .bool false, .bool false, .bool false, undef, undef, undef, undef, undef, undef, undef, undef, undef], defers := [] } _
            refine wpAny_take (i := 18) (v := undef) rfl (by kernel_rfl) (by kernel_rfl) (by kernel_rfl) (fun _ _ _ h => h) (Or.inr ⟨by rfl, rfl⟩) ?_
            change wpAny _ _ _ _ _ _ { tmps := #[.agg #[.int .u64 (a : Int), .int .u64 (b : Int)], .agg #[.int .u64 (c : Int), .int .u64 (d : Int)], .pointer (some ⟨B, 0, none⟩), .pointer (some ⟨B + 1, 0, none⟩), .bool false, .agg #[.int .u64 (a : Int), .int .u64 (b : Int)], .bool true, .bool true, .agg #[.int .u64 (c : Int), .int .u64 (d : Int)], .bool true, .bool true, .bool true, .pointer (some ⟨B, 0, none⟩), .int .u64 (a : Int), va, .pointer (some ⟨B + 1, 0, none⟩), .int .u64 (c : Int), vc, .bool true, .bool false, .bool false, .bool false, undef, undef, undef, undef, undef, undef, undef, undef, undef], defers := [] } _
            refine wpAny_take (i := 19) (v := undef) rfl (by kernel_rfl) (by kernel_rfl) (by kernel_rfl) (fun _ _ _ h => h) (Or.inr ⟨by rfl, rfl⟩) ?_
            change wpAny _ _ _ _ _ _ { tmps := #[.agg #[.int .u64 (a : Int), .int .u64 (b : Int)], .agg #[.int .u64 (c : Int), .int .u64 (d : Int)], .pointer (some ⟨B, 0, none⟩), .pointer (some ⟨B + 1, 0, none⟩), .bool false, .agg #[.int .u64 (a : Int), .int .u64 (b : Int)], .bool true, .bool true, .agg #[.int .u64 (c : Int), .int .u64 (d : Int)], .bool true, .bool true, .bool true, .pointer (some ⟨B, 0, none⟩), .int .u64 (a : Int), va, .pointer (some ⟨B + 1, 0, none⟩), .int .u64 (c : Int), vc, .bool true, .bool false, .bool false, .bool false, undef, undef, undef, undef, undef, undef, undef, undef, undef], defers := [] } _
            refine wpAny_take (i := 20) (v := undef) rfl (by kernel_rfl) (by kernel_rfl) (by kernel_rfl) (fun _ _ _ h => h) (Or.inr ⟨by rfl, rfl⟩) ?_
            change wpAny _ _ _ _ _ _ { tmps := #[.agg #[.int .u64 (a : Int), .int .u64 (b : Int)], .agg #[.int .u64 (c : Int), .int .u64 (d : Int)], .pointer (some ⟨B, 0, none⟩), .pointer (some ⟨B + 1, 0, none⟩), .bool false, .agg #[.int .u64 (a : Int), .int .u64 (b : Int)], .bool true, .bool true, .agg #[.int .u64 (c : Int), .int .u64 (d : Int)], .bool true, .bool true, .bool true, .pointer (some ⟨B, 0, none⟩), .int .u64 (a : Int), va, .pointer (some ⟨B + 1, 0, none⟩), .int .u64 (c : Int), vc, .bool true, .bool false, .bool false, .bool false, undef, undef, undef, undef, undef, undef, undef, undef, undef], defers := [] } _
            refine wpAny_take (i := 21) (v := undef) rfl (by kernel_rfl) (by kernel_rfl) (by kernel_rfl) (fun _ _ _ h => h) (Or.inr ⟨by rfl, rfl⟩) ?_
            change wpAny _ _ _ _ _ _ { tmps := #[.agg #[.int .u64 (a : Int), .int .u64 (b : Int)], .agg #[.int .u64 (c : Int), .int .u64 (d : Int)], .pointer (some ⟨B, 0, none⟩), .pointer (some ⟨B + 1, 0, none⟩), .bool false, .agg #[.int .u64 (a : Int), .int .u64 (b : Int)], .bool true, .bool true, .agg #[.int .u64 (c : Int), .int .u64 (d : Int)], .bool true, .bool true, .bool true, .pointer (some ⟨B, 0, none⟩), .int .u64 (a : Int), va, .pointer (some ⟨B + 1, 0, none⟩), .int .u64 (c : Int), vc, .bool true, .bool false, .bool false, .bool false, undef, undef, undef, undef, undef, undef, undef, undef, undef], defers := [] } _
            refine wpAny_take (i := 22) (v := undef) rfl (by kernel_rfl) (by kernel_rfl) (by kernel_rfl) (fun _ _ _ h => h) (Or.inr ⟨by rfl, rfl⟩) ?_
            change wpAny _ _ _ _ _ _ { tmps := #[.agg #[.int .u64 (a : Int), .int .u64 (b : Int)], .agg #[.int .u64 (c : Int), .int .u64 (d : Int)], .pointer (some ⟨B, 0, none⟩), .pointer (some ⟨B + 1, 0, none⟩), .bool false, .agg #[.int .u64 (a : Int), .int .u64 (b : Int)], .bool true, .bool true, .agg #[.int .u64 (c : Int), .int .u64 (d : Int)], .bool true, .bool true, .bool true, .pointer (some ⟨B, 0, none⟩), .int .u64 (a : Int), va, .pointer (some ⟨B + 1, 0, none⟩), .int .u64 (c : Int), vc, .bool true, .bool false, .bool false, .bool false, undef, undef, undef, undef, undef, undef, undef, undef, undef], defers := [] } _
            refine wpAny_take (i := 23) (v := undef) rfl (by kernel_rfl) (by kernel_rfl) (by kernel_rfl) (fun _ _ _ h => h) (Or.inr ⟨by rfl, rfl⟩) ?_
            change wpAny _ _ _ _ _ _ { tmps := #[.agg #[.int .u64 (a : Int), .int .u64 (b : Int)], .agg #[.int .u64 (c : Int), .int .u64 (d : Int)], .pointer (some ⟨B, 0, none⟩), .pointer (some ⟨B + 1, 0, none⟩), .bool false, .agg #[.int .u64 (a : Int), .int .u64 (b : Int)], .bool true, .bool true, .agg #[.int .u64 (c : Int), .int .u64 (d : Int)], .bool true, .bool true, .bool true, .pointer (some ⟨B, 0, none⟩), .int .u64 (a : Int), va, .pointer (some ⟨B + 1, 0, none⟩), .int .u64 (c : Int), vc, .bool true, .bool false, .bool false, .bool false, undef, undef, undef, undef, undef, undef, undef, undef, undef], defers := [] } _
            refine wpAny_take (i := 24) (v := undef) rfl (by kernel_rfl) (by kernel_rfl) (by kernel_rfl) (fun _ _ _ h => h) (Or.inr ⟨by rfl, rfl⟩) ?_
            change wpAny _ _ _ _ _ _ { tmps := #[.agg #[.int .u64 (a : Int), .int .u64 (b : Int)], .agg #[.int .u64 (c : Int), .int .u64 (d : Int)], .pointer (some ⟨B, 0, none⟩), .pointer (some ⟨B + 1, 0, none⟩), .bool false, .agg #[.int .u64 (a : Int), .int .u64 (b : Int)], .bool true, .bool true, .agg #[.int .u64 (c : Int), .int .u64 (d : Int)], .bool true, .bool true, .bool true, .pointer (some ⟨B, 0, none⟩), .int .u64 (a : Int), va, .pointer (some ⟨B + 1, 0, none⟩), .int .u64 (c : Int), vc, .bool true, .bool false, .bool false, .bool false, undef, undef, undef, undef, undef, undef, undef, undef, undef], defers := [] } _
            refine wpAny_take (i := 25) (v := .bool false) rfl (by kernel_rfl) (by kernel_rfl) (by kernel_rfl) (fun _ _ _ h => h) (Or.inl ⟨by rfl, by intro w; first | (go_simp; done) | (go_simp; with_reducible rfl)⟩) ?_
            change wpAny _ _ _ _ _ _ { tmps := #[.agg #[.int .u64 (a : Int), .int .u64 (b : Int)], .agg #[.int .u64 (c : Int), .int .u64 (d : Int)], .pointer (some ⟨B, 0, none⟩), .pointer (some ⟨B + 1, 0, none⟩), .bool false, .agg #[.int .u64 (a : Int), .int .u64 (b : Int)], .bool true, .bool true, .agg #[.int .u64 (c : Int), .int .u64 (d : Int)], .bool true, .bool true, .bool true, .pointer (some ⟨B, 0, none⟩), .int .u64 (a : Int), va, .pointer (some ⟨B + 1, 0, none⟩), .int .u64 (c : Int), vc, .bool true, .bool false, .bool false, .bool false, undef, undef, undef, undef, undef, undef, undef, undef, .bool false], defers := [] } _
            refine wpAny_ready (rs := [26]) (by kernel_rfl) (by simp) ?_
            refine AllReady.cons rfl (fun K hK => ?_) AllReady.nil
            go_simp
            refine hK _ _ ?_
            clear hK K
            refine wpAny_done (by kernel_rfl) ?_ _
            have HF := Lib.hid (HB.out.trans s5)
            go_wp2
            go_ret
            exact ⟨rfl, HF.out⟩
          · go_simp
            refine hK _ _ ?_
            clear hK K
            change wpAny _ _ _ _ _ _ { tmps := #[.agg #[.int .u64 (a : Int), .int .u64 (b : Int)], .agg #[.int .u64 (c : Int), .int .u64 (d : Int)], .pointer (some ⟨B, 0, none⟩), .pointer (some ⟨B + 1, 0, none⟩), .bool false, .agg #[.int .u64 (a : Int), .int .u64 (b : Int)], .bool true, .bool true, .agg #[.int .u64 (c : Int), .int .u64 (d : Int)], .bool true, .bool true, .bool true, .pointer (some ⟨B, 0, none⟩), .int .u64 (a : Int), undef, .pointer (some ⟨B + 1, 0, none⟩), .int .u64 (c : Int), undef, undef, undef, undef, undef, undef, undef, undef, undef, undef, undef, undef, undef, undef], defers := [] } _
            refine wpAny_ready (rs := [9]) (by kernel_rfl) (by simp) ?_
            refine AllReady.cons rfl (fun K hK => ?_) AllReady.nil
            go_simp
            go_wp2_with (go_at_call 85; (with_reducible refine (NA.out _ (HTV.out _ (by assumption))).mono ?_); rintro r w3 ⟨va, rfl, hva, hE⟩; have s3 : Ext V w3 := Ext.trans (by assumption) hE; clear hE; obtain ⟨⟨a0, a1⟩, a2, a3⟩ := HC.out _ s3)
            first | (refine hK _ _ ?_; clear hK K) | skip
            change wpAny _ _ _ _ _ _ { tmps := #[.agg #[.int .u64 (a : Int), .int .u64 (b : Int)], .agg #[.int .u64 (c : Int), .int .u64 (d : Int)], .pointer (some ⟨B, 0, none⟩), .pointer (some ⟨B + 1, 0, none⟩), .bool false, .agg #[.int .u64 (a : Int), .int .u64 (b : Int)], .bool true, .bool true, .agg #[.int .u64 (c : Int), .int .u64 (d : Int)], .bool true, .bool true, .bool true, .pointer (some ⟨B, 0, none⟩), .int .u64 (a : Int), va, .pointer (some ⟨B + 1, 0, none⟩), .int .u64 (c : Int), undef, undef, undef, undef, undef, undef, undef, undef, undef, undef, undef, undef, undef, undef], defers := [] } _
            refine wpAny_ready (rs := [12]) (by kernel_rfl) (by simp) ?_
            refine AllReady.cons rfl (fun K hK => ?_) AllReady.nil
            go_simp
            go_wp2_with (go_at_call 85; (with_reducible refine (NC.out _ (HTV.out _ (by assumption))).mono ?_); rintro r w4 ⟨vc, rfl, hvc, hE⟩; have s4 : Ext V w4 := Ext.trans (by assumption) hE; have hva := hva.ext hE; clear hE; obtain ⟨⟨a0, a1⟩, a2, a3⟩ := HC.out _ s4)
            first | (refine hK _ _ ?_; clear hK K) | skip
            change wpAny _ _ _ _ _ _ { tmps := #[.agg #[.int .u64 (a : Int), .int .u64 (b : Int)], .agg #[.int .u64 (c : Int), .int .u64 (d : Int)], .pointer (some ⟨B, 0, none⟩), .pointer (some ⟨B + 1, 0, none⟩), .bool false, .agg #[.int .u64 (a : Int), .int .u64 (b : Int)], .bool true, .bool true, .agg #[.int .u64 (c : Int), .int .u64 (d : Int)], .bool true, .bool true, .bool true, .pointer (some ⟨B, 0, none⟩), .int .u64 (a : Int), va, .pointer (some ⟨B + 1, 0, none⟩), .int .u64 (c : Int), vc, undef, undef, undef, undef, undef, undef, undef, undef, undef, undef, undef, undef, undef], defers := [] } _
            refine wpAny_ready (rs := [13]) (by kernel_rfl) (by simp) ?_
            refine AllReady.cons rfl (fun K hK => ?_) AllReady.nil
            go_simp
            go_wp2_with (go_at_call 99; (refine (L1.out _ _ _ (by exact hva) (by exact hvc) (HTV.out _ (by assumption))).mono ?_); rintro r w5 ⟨rfl, hE⟩; have s5 : Ext V w5 := Ext.trans (by assumption) hE; clear hE; obtain ⟨⟨a0, a1⟩, a2, a3⟩ := HC.out _ s5)
            first | (refine hK _ _ ?_; clear hK K) | skip
            change wpAny _ _ _ _ _ _ { tmps := #[.agg #[.int .u64 (a : Int), .int .u64 (b : Int)], .agg #[.int .u64 (c : Int), .int .u64 (d : Int)], .pointer (some ⟨B, 0, none⟩), .pointer (some ⟨B + 1, 0, none⟩), .bool false, .agg #[.int .u64 (a : Int), .int .u64 (b : Int)], .bool true, .bool true, .agg #[.int .u64 (c : Int), .int .u64 (d : Int)], .bool true, .bool true, .bool true, .pointer (some ⟨B, 0, none⟩), .int .u64 (a : Int), va, .pointer (some ⟨B + 1, 0, none⟩), .int .u64 (c : Int), vc, .bool true, undef, undef, undef, undef, undef, undef, undef, undef, undef, undef, undef, undef], defers := [] } _
            refine wpAny_take (i := 14) (v := .bool false) rfl (by kernel_rfl) (by kernel_rfl) (by kernel_rfl) (fun _ _ _ h => h) (Or.inl ⟨by rfl, by intro w; first | (go_simp; done) | (go_simp; with_reducible rfl)⟩) ?_
            change wpAny _ _ _ _ _ _ { tmps := #[.agg #[.int .u64 (a : Int), .int .u64 (b : Int)], .agg #[.int .u64 (c : Int), .int .u64 (d : Int)], .pointer (some ⟨B, 0, none⟩), .pointer (some ⟨B + 1, 0, none⟩), .bool false, .agg #[.int .u64 (a : Int), .int .u64 (b : Int)], .bool true, .bool true, .agg #[.int .u64 (c : Int), .int .u64 (d : Int)], .bool true, .bool true, .bool true, .pointer (some ⟨B, 0, none⟩), .int .u64 (a : Int), va, .pointer (some ⟨B + 1, 0, none⟩), .int .u64 (c : Int), vc, .bool true, .bool false, undef, undef, undef, undef, undef, undef, undef, undef, undef, undef, undef], defers := [] } _
            refine wpAny_take (i := 15) (v := .bool false) rfl (by kernel_rfl) (by kernel_rfl) (by kernel_rfl) (fun _ _ _ h => h) (Or.inl ⟨by rfl, by intro w; first | (go_simp; done) | (go_simp; with_reducible rfl)⟩) ?_
            change wpAny _ _ _ _ _ _ { tmps := #[.agg #[.int .u64 (a : Int), .int .u64 (b : Int)], .agg #[.int .u64 (c : Int), .int .u64 (d : Int)], .pointer (some ⟨B, 0, none⟩), .pointer (some ⟨B + 1, 0, none⟩), .bool false, .agg #[.int .u64 (a : Int), .int .u64 (b : Int)], .bool true, .bool true, .agg #[.int .u64 (c : Int), .int .u64 (d : Int)], .bool true, .bool true, .bool true, .pointer (some ⟨B, 0, none⟩), .int .u64 (a : Int), va, .pointer (some ⟨B + 1, 0, none⟩), .int .u64 (c : Int), vc, .bool true, .bool false, .bool false, undef, undef, undef, undef, undef, undef, undef, undef, undef, undef], defers := [] } _
            refine wpAny_take (i := 16) (v := .bool false) rfl (by kernel_rfl) (by kernel_rfl) (by kernel_rfl) (fun _ _ _ h => h) (Or.inl ⟨by rfl, by intro w; first | (go_simp; done) | (go_simp; with_reducible rfl)⟩) ?_
            change wpAny _ _ _ _ _ _ { tmps := #[.agg #[.int .u64 (a : Int), .int .u64 (b : Int)], .agg #[.int .u64 (c : Int), .int .u64 (d : Int)], .pointer (some ⟨B, 0, none⟩), .pointer (some ⟨B + 1, 0, none⟩), .bool false, .agg #[.int .u64 (a : Int), .int .u64 (b : Int)], .bool true, .bool true, .agg #[.int .u64 (c : Int), .int .u64 (d : Int)], .bool true, .bool true, .bool true, .pointer (some ⟨B, 0, none⟩), .int .u64 (a : Int), va, .pointer (some ⟨B + 1, 0, none⟩), .int .u64 (c : Int), vc, .bool true, .bool false, .bool false, .bool false, undef, undef, undef, undef, undef, undef, undef, undef, undef], defers := [] } _
            refine wpAny_take (i := 17) (v := undef) rfl (by kernel_rfl) (by kernel_rfl) (by kernel_rfl) (fun _ _ _ h => h) (Or.inr ⟨by rfl, rfl⟩) ?_
            change wpAny _ _ _ _ _ _ { tmps := #[.agg #[.int .u64 (a : Int), .int .u64 (b : Int)], .agg #[.int .u64 (c : Int), .int .u64 (d : Int)], .pointer (some ⟨B, 0, none⟩), .pointer (some ⟨B + 1, 0, none⟩), .bool false, .agg #[.int .u64 (a : Int), .int .u64 (b : Int)], .bool true, .bool true, .agg #[.int .u64 (c : Int), .int .u64 (d : Int)], .bool true, .bool true, .bool true, .pointer (some ⟨B, 0, none⟩), .int .u64 (a : Int), va, .pointer (some ⟨B + 1, 0, none⟩), .int .u64 (c : Int), vc, .bool true, .bool false, .bool false, .bool false, undef, undef, undef, undef, undef, undef, undef, undef, undef], defers := [] } _
            refine wpAny_take (i := 18) (v := undef) rfl (by kernel_rfl) (by kernel_rfl) (by kernel_rfl) (fun _ _ _ h => h) (Or.inr ⟨by rfl, rfl⟩) ?_
            change wpAny _ _ _ _ _ _ { tmps := #[.agg #[.int .u64 (a : Int), .int .u64 (b : Int)], .agg #[.int .u64 (c : Int), .int .u64 (d : Int)], .pointer (some ⟨B, 0, none⟩), .pointer (some ⟨B + 1, 0, none⟩), .bool false, .agg #[.int .u64 (a : Int), .int .u64 (b : Int)], .bool true, .bool true, .agg #[.int .u64 (c : Int), .int .u64 (d : Int)], .bool true, .bool true, .bool true, .pointer (some ⟨B, 0, none⟩), .int .u64 (a : Int), va, .pointer (some ⟨B + 1, 0, none⟩), .int .u64 (c : Int), vc, .bool true, .bool false, .bool false, .bool false, undef, undef, undef, undef, undef, undef, undef, undef, undef], defers := [] } _
            refine wpAny_take (i := 19) (v := undef) rfl (by kernel_rfl) (by kernel_rfl) (by kernel_rfl) (fun _ _ _ h => h) (Or.inr ⟨by rfl, rfl⟩) ?_
            change wpAny _ _ _ _ _ _ { tmps := #[.agg #[.int .u64 (a : Int), .int .u64 (b : Int)], .agg #[.int .u64 (c : Int), .int .u64 (d : Int)], .pointer (some ⟨B, 0, none⟩), .pointer (some ⟨B + 1, 0, none⟩), .bool false, .agg #[.int .u64 (a : Int), .int .u64 (b : Int)], .bool true, .bool true, .agg #[.int .u64 (c : Int), .int .u64 (d : Int)], .bool true, .bool true, .bool true, .pointer (some ⟨B, 0, none⟩), .int .u64 (a : Int), va, .pointer (some ⟨B + 1, 0, none⟩), .int .u64 (c : Int), vc, .bool true, .bool false, .bool false, .bool false, undef, undef, undef, undef, undef, undef, undef, undef, undef], defers := [] } _
            refine wpAny_take (i := 20) (v := undef) rfl (by kernel_rfl) (by kernel_rfl) (by kernel_rfl) (fun _ _ _ h => h) (Or.inr ⟨by rfl, rfl⟩) ?_
            change wpAny _ _ _ _ _ _ { tmps := #[.agg #[.int .u64 (a : Int), .int .u64 (b : Int)], .agg #[.int .u64 (c : Int), .int .u64 (d : Int)], .pointer (some ⟨B, 0, none⟩), .pointer (some ⟨B + 1, 0, none⟩), .bool false, .agg #[.int .u64 (a : Int), .int .u64 (b : Int)], .bool true, .bool true, .agg #[.int .u64 (c : Int), .int .u64 (d : Int)], .bool true, .bool true, .bool true, .pointer (some ⟨B, 0, none⟩), .int .u64 (a : Int), va, .pointer (some ⟨B + 1, 0, none⟩), .int .u64 (c : Int), vc, .bool true, .bool false, .bool false, .bool false, undef, undef, undef, undef, undef, undef, undef, undef, undef], defers := [] } _
            refine wpAny_take (i := 21) (v := undef) rfl (by kernel_rfl) (by kernel_rfl) (by kernel_rfl) (fun _ _ _ h => h) (Or.inr ⟨by rfl, rfl⟩) ?_
            change wpAny _ _ _ _ _ _ { tmps := #[.agg #[.int .u64 (a : Int), .int .u64 (b : Int)], .agg #[.int .u64 (c : Int), .int .u64 (d : Int)], .pointer (some ⟨B, 0, none⟩), .pointer (some ⟨B + 1, 0, none⟩), .bool false, .agg #[.int .u64 (a : Int), .int .u64 (b : Int)], .bool true, .bool true, .agg #[.int .u64 (c : Int), .int .u64 (d : Int)], .bool true, .bool true, .bool true, .pointer (some ⟨B, 0, none⟩), .int .u64 (a : Int), va, .pointer (some ⟨B + 1, 0, none⟩), .int .u64 (c : Int), vc, .bool true, .bool false, .bool false, .bool false, undef, undef, undef, undef, undef, undef, undef, undef, undef], defers := [] } _
            refine wpAny_take (i := 22) (v := undef) rfl (by kernel_rfl) (by kernel_rfl) (by kernel_rfl) (fun _ _ _ h => h) (Or.inr ⟨by rfl, rfl⟩) ?_
            change wpAny _ _ _ _ _ _ { tmps := #[.agg #[.int .u64 (a : Int), .int .u64 (b : Int)], .agg #[.int .u64 (c : Int), .int .u64 (d : Int)], .pointer (some ⟨B, 0, none⟩), .pointer (some ⟨B + 1, 0, none⟩), .bool false, .agg #[.int .u64 (a : Int), .int .u64 (b : Int)], .bool true, .bool true, .agg #[.int .u64 (c : Int), .int .u64 (d : Int)], .bool true, .bool true, .bool true, .pointer (some ⟨B, 0, none⟩), .int .u64 (a : Int), va, .pointer (some ⟨B + 1, 0, none⟩), .int .u64 (c : Int), vc, .bool true, .bool false, .bool false, .bool false, undef, undef, undef, undef, undef, undef, undef, undef, undef], defers := [] } _
            refine wpAny_take (i := 23) (v := undef) rfl (by kernel_rfl) (by kernel_rfl) (by kernel_rfl) (fun _ _ _ h => h) (Or.inr ⟨by rfl, rfl⟩) ?_
            change wpAny _ _ _ _ _ _ { tmps := #[.agg #[.int .u64 (a : Int), .int .u64 (b : Int)], .agg #[.int .u64 (c : Int), .int .u64 (d : Int)], .pointer (some ⟨B, 0, none⟩), .pointer (some ⟨B + 1, 0, none⟩), .bool false, .agg #[.int .u64 (a : Int), .int .u64 (b : Int)], .bool true, .bool true, .agg #[.int .u64 (c : Int), .int .u64 (d : Int)], .bool true, .bool true, .bool true, .pointer (some ⟨B, 0, none⟩), .int .u64 (a : Int), va, .pointer (some ⟨B + 1, 0, none⟩), .int .u64 (c : Int), vc, .bool true, .bool false, .bool false, .bool false, undef, undef, undef, undef, undef, undef, undef, undef, undef], defers := [] } _
            refine wpAny_take (i := 24) (v := undef) rfl (by kernel_rfl) (by kernel_rfl) (by kernel_rfl) (fun _ _ _ h => h) (Or.inr ⟨by rfl, rfl⟩) ?_
            change wpAny _ _ _ _ _ _ { tmps := #[.agg #[.int .u64 (a : Int), .int .u64 (b : Int)], .agg #[.int .u64 (c : Int), .int .u64 (d : Int)], .pointer (some ⟨B, 0, none⟩), .pointer (some ⟨B + 1, 0, none⟩), .bool false, .agg #[.int .u64 (a : Int), .int .u64 (b : Int)], .bool true, .bool true, .agg #[.int .u64 (c : Int), .int .u64 (d : Int)], .bool true, .bool true, .bool true, .pointer (some ⟨B, 0, none⟩), .int .u64 (a : Int), va, .pointer (some ⟨B + 1, 0, none⟩), .int .u64 (c : Int), vc, .bool true, .bool false, .bool false, .bool false, undef, undef, undef, undef, undef, undef, undef, undef, undef], defers := [] } _
            refine wpAny_take (i := 25) (v := .bool false) rfl (by kernel_rfl) (by kernel_rfl) (by kernel_rfl) (fun _ _ _ h => h) (Or.inl ⟨by rfl, by intro w; first | (go_simp; done) | (go_simp; with_reducible rfl)⟩) ?_
            change wpAny _ _ _ _ _ _ { tmps := #[.agg #[.int .u64 (a : Int), .int .u64 (b : Int)], .agg #[.int .u64 (c : Int), .int .u64 (d : Int)], .pointer (some ⟨B, 0, none⟩), .pointer (some ⟨B + 1, 0, none⟩), .bool false, .agg #[.int .u64 (a : Int), .int .u64 (b : Int)], .bool true, .bool true, .agg #[.int .u64 (c : Int), .int .u64 (d : Int)], .bool true, .bool true, .bool true, .pointer (some ⟨B, 0, none⟩), .int .u64 (a : Int), va, .pointer (some ⟨B + 1, 0, none⟩), .int .u64 (c : Int), vc, .bool true, .bool false, .bool false, .bool false, undef, undef, undef, undef, undef, undef, undef, undef, .bool false], defers := [] } _
            refine wpAny_ready (rs := [26]) (by kernel_rfl) (by simp) ?_
            refine AllReady.cons rfl (fun K hK => ?_) AllReady.nil
            go_simp
            refine hK _ _ ?_
            clear hK K
            refine wpAny_done (by kernel_rfl) ?_ _
            have HF := Lib.hid (HB.out.trans s5)
            go_wp2
            go_ret
            exact ⟨rfl, HF.out⟩
        · go_simp
          refine hK _ _ ?_
          clear hK K
          change wpAny _ _ _ _ _ _ { tmps := #[.agg #[.int .u64 (a : Int), .int .u64 (b : Int)], .agg #[.int .u64 (c : Int), .int .u64 (d : Int)], .pointer (some ⟨B, 0, none⟩), .pointer (some ⟨B + 1, 0, none⟩), .bool false, .agg #[.int .u64 (a : Int), .int .u64 (b : Int)], .bool true, .bool true, .agg #[.int .u64 (c : Int), .int .u64 (d : Int)], .bool true, .bool true, .bool true, .pointer (some ⟨B, 0, none⟩), undef, undef, .pointer (some ⟨B + 1, 0, none⟩), .int .u64 (c : Int), undef, undef, undef, undef, undef, undef, undef, undef, undef, undef, undef, undef, undef, undef], defers := [] } _
          refine wpAny_ready (rs := [8]) (by kernel_rfl) (by simp) ?_
          refine AllReady.cons rfl (fun K hK => ?_) AllReady.nil
          go_simp
          refine hK _ _ ?_
          clear hK K
          change wpAny _ _ _ _ _ _ { tmps := #[.agg #[.int .u64 (a : Int), .int .u64 (b : Int)], .agg #[.int .u64 (c : Int), .int .u64 (d : Int)], .pointer (some ⟨B, 0, none⟩), .pointer (some ⟨B + 1, 0, none⟩), .bool false, .agg #[.int .u64 (a : Int), .int .u64 (b : Int)], .bool true, .bool true, .agg #[.int .u64 (c : Int), .int .u64 (d : Int)], .bool true, .bool true, .bool true, .pointer (some ⟨B, 0, none⟩), .int .u64 (a : Int), undef, .pointer (some ⟨B + 1, 0, none⟩), .int .u64 (c : Int), undef, undef, undef, undef, undef, undef, undef, undef, undef, undef, undef, undef, undef, undef], defers := [] } _
          refine wpAny_ready (rs := [9]) (by kernel_rfl) (by simp) ?_
          refine AllReady.cons rfl (fun K hK => ?_) AllReady.nil
          go_simp
          go_wp2_with (go_at_call 85; (with_reducible refine (NA.out _ (HTV.out _ (by assumption))).mono ?_); rintro r w3 ⟨va, rfl, hva, hE⟩; have s3 : Ext V w3 := Ext.trans (by assumption) hE; clear hE; obtain ⟨⟨a0, a1⟩, a2, a3⟩ := HC.out _ s3)
          first | (refine hK _ _ ?_; clear hK K) | skip
          change wpAny _ _ _ _ _ _ { tmps := #[.agg #[.int .u64 (a : Int), .int .u64 (b : Int)], .agg #[.int .u64 (c : Int), .int .u64 (d : Int)], .pointer (some ⟨B, 0, none⟩), .pointer (some ⟨B + 1, 0, none⟩), .bool false, .agg #[.int .u64 (a : Int), .int .u64 (b : Int)], .bool true, .bool true, .agg #[.int .u64 (c : Int), .int .u64 (d : Int)], .bool true, .bool true, .bool true, .pointer (some ⟨B, 0, none⟩), .int .u64 (a : Int), va, .pointer (some ⟨B + 1, 0, none⟩), .int .u64 (c : Int), undef, undef, undef, undef, undef, undef, undef, undef, undef, undef, undef, undef, undef, undef], defers := [] } _
          refine wpAny_ready (rs := [12]) (by kernel_rfl) (by simp) ?_
          refine AllReady.cons rfl (fun K hK => ?_) AllReady.nil
          go_simp
          go_wp2_with (go_at_call 85; (with_reducible refine (NC.out _ (HTV.out _ (by assumption))).mono ?_); rintro r w4 ⟨vc, rfl, hvc, hE⟩; have s4 : Ext V w4 := Ext.trans (by assumption) hE; have hva := hva.ext hE; clear hE; obtain ⟨⟨a0, a1⟩, a2, a3⟩ := HC.out _ s4)
          first | (refine hK _ _ ?_; clear hK K) | skip
          change wpAny _ _ _ _ _ _ { tmps := #[.agg #[.int .u64 (a : Int), .int .u64 (b : Int)], .agg #[.int .u64 (c : Int), .int .u64 (d : Int)], .pointer (some ⟨B, 0, none⟩), .pointer (some ⟨B + 1, 0, none⟩), .bool false, .agg #[.int .u64 (a : Int), .int .u64 (b : Int)], .bool true, .bool true, .agg #[.int .u64 (c : Int), .int .u64 (d : Int)], .bool true, .bool true, .bool true, .pointer (some ⟨B, 0, none⟩), .int .u64 (a : Int), va, .pointer (some ⟨B + 1, 0, none⟩), .int .u64 (c : Int), vc, undef, undef, undef, undef, undef, undef, undef, undef, undef, undef, undef, undef, undef], defers := [] } _
          refine wpAny_ready (rs := [13]) (by kernel_rfl) (by simp) ?_
          refine AllReady.cons rfl (fun K hK => ?_) AllReady.nil
          go_simp
          go_wp2_with (go_at_call 99; (refine (L1.out _ _ _ (by exact hva) (by exact hvc) (HTV.out _ (by assumption))).mono ?_); rintro r w5 ⟨rfl, hE⟩; have s5 : Ext V w5 := Ext.trans (by assumption) hE; clear hE; obtain ⟨⟨a0, a1⟩, a2, a3⟩ := HC.out _ s5)
          first | (refine hK _ _ ?_; clear hK K) | skip
          change wpAny _ _ _ _ _ _ { tmps := #[.agg #[.int .u64 (a : Int), .int .u64 (b : Int)], .agg #[.int .u64 (c : Int), .int .u64 (d : Int)], .pointer (some ⟨B, 0, none⟩), .pointer (some ⟨B + 1, 0, none⟩), .bool false, .agg #[.int .u64 (a : Int), .int .u64 (b : Int)], .bool true, .bool true, .agg #[.int .u64 (c : Int), .int .u64 (d : Int)], .bool true, .bool true, .bool true, .pointer (some ⟨B, 0, none⟩), .int .u64 (a : Int), va, .pointer (some ⟨B + 1, 0, none⟩), .int .u64 (c : Int), vc, .bool true, undef, undef, undef, undef, undef, undef, undef, undef, undef, undef, undef, undef], defers := [] } _
          refine wpAny_take (i := 14) (v := .bool false) rfl (by kernel_rfl) (by kernel_rfl) (by kernel_rfl) (fun _ _ _ h => h) (Or.inl ⟨by rfl, by intro w; first | (go_simp; done) | (go_simp; with_reducible rfl)⟩) ?_
          change wpAny _ _ _ _ _ _ { tmps := #[.agg #[.int .u64 (a : Int), .int .u64 (b : Int)], .agg #[.int .u64 (c : Int), .int .u64 (d : Int)], .pointer (some ⟨B, 0, none⟩), .pointer (some ⟨B + 1, 0, none⟩), .bool false, .agg #[.int .u64 (a : Int), .int .u64 (b : Int)], .bool true, .bool true, .agg #[.int .u64 (c : Int), .int .u64 (d : Int)], .bool true, .bool true, .bool true, .pointer (some ⟨B, 0, none⟩), .int .u64 (a : Int), va, .pointer (some ⟨B + 1, 0, none⟩), .int .u64 (c : Int), vc, .bool true, .bool false, undef, undef, undef, undef, undef, undef, undef, undef, undef, undef, undef], defers := [] } _
          refine wpAny_take (i := 15) (v := .bool false) rfl (by kernel_rfl) (by kernel_rfl) (by kernel_rfl) (fun _ _ _ h => h) (Or.inl ⟨by rfl, by intro w; first | (go_simp; done) | (go_simp; with_reducible rfl)⟩) ?_
          change wpAny _ _ _ _ _ _ { tmps := #[.agg #[.int .u64 (a : Int), .int .u64 (b : Int)], .agg #[.int .u64 (c : Int), .int .u64 (d : Int)], .pointer (some ⟨B, 0, none⟩), .pointer (some ⟨B + 1, 0, none⟩), .bool false, .agg #[.int .u64 (a : Int), .int .u64 (b : Int)], .bool true, .bool true, .agg #[.int .u64 (c : Int), .int .u64 (d : Int)], .bool true, .bool true, .bool true, .pointer (some ⟨B, 0, none⟩), .int .u64 (a : Int), va, .pointer (some ⟨B + 1, 0, none⟩), .int .u64 (c : Int), vc, .bool true, .bool false, .bool false, undef, undef, undef, undef, undef, undef, undef, undef, undef, undef], defers := [] } _
          refine wpAny_take (i := 16) (v := .bool false) rfl (by kernel_rfl) (by kernel_rfl) (by kernel_rfl) (fun _ _ _ h => h) (Or.inl ⟨by rfl, by intro w; first | (go_simp; done) | (go_simp; with_reducible rfl)⟩) ?_
          change wpAny _ _ _ _ _ _ { tmps := #[.agg #[.int .u64 (a : Int), .int .u64 (b : Int)], .agg #[.int .u64 (c : Int), .int .u64 (d : Int)], .pointer (some ⟨B, 0, none⟩), .pointer (some ⟨B + 1, 0, none⟩), .bool false, .agg #[.int .u64 (a : Int), .int .u64 (b : Int)], .bool true, .bool true, .agg #[.int .u64 (c : Int), .int .u64 (d : Int)], .bool true, .bool true, .bool true, .pointer (some ⟨B, 0, none⟩), .int .u64 (a : Int), va, .pointer (some ⟨B + 1, 0, none⟩), .int .u64 (c : Int), vc, .bool true, .bool false, .bool false, .bool false, undef, undef, undef, undef, undef, undef, undef, undef, undef], defers := [] } _
          refine wpAny_take (i := 17) (v := undef) rfl (by kernel_rfl) (by kernel_rfl) (by kernel_rfl) (fun _ _ _ h => h) (Or.inr ⟨by rfl, rfl⟩) ?_
          change wpAny _ _ _ _ _ _ { tmps := #[.agg #[.int .u64 (a : Int), .int .u64 (b : Int)], .agg #[.int .u64 (c : Int), .int .u64 (d : Int)], .pointer (some ⟨B, 0, none⟩), .pointer (some ⟨B + 1, 0, none⟩), .bool false, .agg #[.int .u64 (a : Int), .int .u64 (b : Int)], .bool true, .bool true, .agg #[.int .u64 (c : Int), .int .u64 (d : Int)], .bool true, .bool true, .bool true, .pointer (some ⟨B, 0, none⟩), .int .u64 (a : Int), va, .pointer (some ⟨B + 1, 0, none⟩), .int .u64 (c : Int), vc, .bool true, .bool false, .bool false, .bool false, undef, undef, undef, undef, undef, undef, undef, undef, undef], defers := [] } _
          refine wpAny_take (i := 18) (v := undef) rfl (by kernel_rfl) (by kernel_rfl) (by kernel_rfl) (fun _ _ _ h => h) (Or.inr ⟨by rfl, rfl⟩) ?_
          change wpAny _ _ _ _ _ _ { tmps := #[.agg #[.int .u64 (a : Int), .int .u64 (b : Int)], .agg #[.int .u64 (c : Int), .int .u64 (d : Int)], .pointer (some ⟨B, 0, none⟩), .pointer (some ⟨B + 1, 0, none⟩), .bool false, .agg #[.int .u64 (a : Int), .int .u64 (b : Int)], .bool true, .bool true, .agg #[.int .u64 (c : Int), .int .u64 (d : Int)], .bool true, .bool true, .bool true, .pointer (some ⟨B, 0, none⟩), .int .u64 (a : Int), va, .pointer (some ⟨B + 1, 0, none⟩), .int .u64 (c : Int), vc, .bool true, .bool false, .bool false, .bool false, undef, undef, undef, undef, undef, undef, undef, undef, undef], defers := [] } _
          refine wpAny_take (i := 19) (v := undef) rfl (by kernel_rfl) (by kernel_rfl) (by kernel_rfl) (fun _ _ _ h => h) (Or.inr ⟨by rfl, rfl⟩) ?_
          change wpAny _ _ _ _ _ _ { tmps := #[.agg #[.int .u64 (a : Int), .int .u64 (b : Int)], .agg #[.int .u64 (c : Int), .int .u64 (d : Int)], .pointer (some ⟨B, 0, none⟩), .pointer (some ⟨B + 1, 0, none⟩), .bool false, .agg #[.int .u64 (a : Int), .int .u64 (b : Int)], .bool true, .bool true, .agg #[.int .u64 (c : Int), .int .u64 (d : Int)], .bool true, .bool true, .bool true, .pointer (some ⟨B, 0, none⟩), .int .u64 (a : Int), va, .pointer (some ⟨B + 1, 0, none⟩), .int .u64 (c : Int), vc, .bool true, .bool false, .bool false, .bool false, undef, undef, undef, undef, undef, undef, undef, undef, undef], defers := [] } _
          refine wpAny_take (i := 20) (v := undef) rfl (by kernel_rfl) (by kernel_rfl) (by kernel_rfl) (fun _ _ _ h => h) (Or.inr ⟨by rfl, rfl⟩) ?_
          change wpAny _ _ _ _ _ _ { tmps := #[.agg #[.int .u64 (a : Int), .int .u64 (b : Int)], .agg #[.int .u64 (c : Int), .int .u64 (d : Int)], .pointer (some ⟨B, 0, none⟩), .pointer (some ⟨B + 1, 0, none⟩), .bool false, .agg #[.int .u64 (a : Int), .int .u64 (b : Int)], .bool true, .bool true, .agg #[.int .u64 (c : Int), .int .u64 (d : Int)], .bool true, .bool true, .bool true, .pointer (some ⟨B, 0, none⟩), .int .u64 (a : Int), va, .pointer (some ⟨B + 1, 0, none⟩), .int .u64 (c : Int), vc, .bool true, .bool false, .bool false, .bool false, undef, undef, undef, undef, undef, undef, undef, undef, undef], defers := [] } _
          refine wpAny_take (i := 21) (v := undef) rfl (by kernel_rfl) (by kernel_rfl) (by kernel_rfl) (fun _ _ _ h => h) (Or.inr ⟨by rfl, rfl⟩) ?_
          change wpAny _ _ _ _ _ _ { tmps := #[.agg #[.int .u64 (a : Int), .int .u64 (b : Int)], .agg #[.int .u64 (c : Int), .int .u64 (d : Int)], .pointer (some ⟨B, 0, none⟩), .pointer (some ⟨B + 1, 0, none⟩), .bool false, .agg #[.int .u64 (a : Int), .int .u64 (b : Int)], .bool true, .bool true, .agg #[.int .u64 (c : Int), .int .u64 (d : Int)], .bool true, .bool true, .bool true, .pointer (some ⟨B, 0, none⟩), .int .u64 (a : Int), va, .pointer (some ⟨B + 1, 0, none⟩), .int .u64 (c : Int), vc, .bool true, .bool false, .bool false, .bool false, undef, undef, undef, undef, undef, undef, undef, undef, undef], defers := [] } _
          refine wpAny_take (i := 22) (v := undef) rfl (by kernel_rfl) (by kernel_rfl) (by kernel_rfl) (fun _ _ _ h => h) (Or.inr ⟨by rfl, rfl⟩) ?_
          change wpAny _ _ _ _ _ _ { tmps := #[.agg #[.int .u64 (a : Int), .int .u64 (b : Int)], .agg #[.int .u64 (c : Int), .int .u64 (d : Int)], .pointer (some ⟨B, 0, none⟩), .pointer (some ⟨B + 1, 0, none⟩), .bool false, .agg #[.int .u64 (a : Int), .int .u64 (b : Int)], .bool true, .bool true, .agg #[.int .u64 (c : Int), .int .u64 (d : Int)], .bool true, .bool true, .bool true, .pointer (some ⟨B, 0, none⟩), .int .u64 (a : Int), va, .pointer (some ⟨B + 1, 0, none⟩), .int .u64 (c : Int), vc, .bool true, .bool false, .bool false, .bool false, undef, undef, undef, undef, undef, undef, undef, undef, undef], defers := [] } _
          refine wpAny_take (i := 23) (v := undef) rfl (by kernel_rfl) (by kernel_rfl) (by kernel_rfl) (fun _ _ _ h => h) (Or.inr ⟨by rfl, rfl⟩) ?_
          change wpAny _ _ _ _ _ _ { tmps := #[.agg #[.int .u64 (a : Int), .int .u64 (b : Int)], .agg #[.int .u64 (c : Int), .int .u64 (d : Int)], .pointer (some ⟨B, 0, none⟩), .pointer (some ⟨B + 1, 0, none⟩), .bool false, .agg #[.int .u64 (a : Int), .int .u64 (b : Int)], .bool true, .bool true, .agg #[.int .u64 (c : Int), .int .u64 (d : Int)], .bool true, .bool true, .bool true, .pointer (some ⟨B, 0, none⟩), .int .u64 (a : Int), va, .pointer (some ⟨B + 1, 0, none⟩), .int .u64 (c : Int), vc, .bool true, .bool false, .bool false, .bool false, undef, undef, undef, undef, undef, undef, undef, undef, undef], defers := [] } _
          refine wpAny_take (i := 24) (v := undef) rfl (by kernel_rfl) (by kernel_rfl) (by kernel_rfl) (fun _ _ _ h => h) (Or.inr ⟨by rfl, rfl⟩) ?_
          change wpAny _ _ _ _ _ _ { tmps := #[.agg #[.int .u64 (a : Int), .int .u64 (b : Int)], .agg #[.int .u64 (c : Int), .int .u64 (d : Int)], .pointer (some ⟨B, 0, none⟩), .pointer (some ⟨B + 1, 0, none⟩), .bool false, .agg #[.int .u64 (a : Int), .int .u64 (b : Int)], .bool true, .bool true, .agg #[.int .u64 (c : Int), .int .u64 (d : Int)], .bool true, .bool true, .bool true, .pointer (some ⟨B, 0, none⟩), .int .u64 (a : Int), va, .pointer (some ⟨B + 1, 0, none⟩), .int .u64 (c : Int), vc, .bool true, .bool false, .bool false, .bool false, undef, undef, undef, undef, undef, undef, undef, undef, undef], defers := [] } _
          refine wpAny_take (i := 25) (v := .bool false) rfl (by kernel_rfl) (by kernel_rfl) (by kernel_rfl) (fun _ _ _ h => h) (Or.inl ⟨by rfl, by intro w; first | (go_simp; done) | (go_simp; with_reducible rfl)⟩) ?_
          change wpAny _ _ _ _ _ _ { tmps := #[.agg #[.int .u64 (a : Int), .int .u64 (b : Int)], .agg #[.int .u64 (c : Int), .int .u64 (d : Int)], .pointer (some ⟨B, 0, none⟩), .pointer (some ⟨B + 1, 0, none⟩), .bool false, .agg #[.int .u64 (a : Int), .int .u64 (b : Int)], .bool true, .bool true, .agg #[.int .u64 (c : Int), .int .u64 (d : Int)], .bool true, .bool true, .bool true, .pointer (some ⟨B, 0, none⟩), .int .u64 (a : Int), va, .pointer (some ⟨B + 1, 0, none⟩), .int .u64 (c : Int), vc, .bool true, .bool false, .bool false, .bool false, undef, undef, undef, undef, undef, undef, undef, undef, .bool false], defers := [] } _
          refine wpAny_ready (rs := [26]) (by kernel_rfl) (by simp) ?_
          refine AllReady.cons rfl (fun K hK => ?_) AllReady.nil
          go_simp
          refine hK _ _ ?_
          clear hK K
          refine wpAny_done (by kernel_rfl) ?_ _
          have HF := Lib.hid (HB.out.trans s5)
          go_wp2
          go_ret
          exact ⟨rfl, HF.out⟩
      | false =>
        obtain rfl : (!l2) = z := HZ.out
        first | (go_region_held3 (fun wx => (wx.cell? ⟨B, 0, none⟩ = some (.int .u64 (a : Int)) ∧ wx.cell? ⟨B, 1, none⟩ = some (.int .u64 (b : Int))) ∧ (wx.cell? ⟨B + 1, 0, none⟩ = some (.int .u64 (c : Int)) ∧ wx.cell? ⟨B + 1, 1, none⟩ = some (.int .u64 (d : Int))))
            (first | exact HC.out _ (by assumption))
            (first
              | (go_at_call 16; (with_reducible refine (CX.out _).mono ?_); rintro r w1 ⟨rfl, hE⟩; have s1 : Ext V w1 := Ext.trans (by assumption) hE; clear hE)
              | (go_at_call 16; (with_reducible refine (CY.out _).mono ?_); rintro r w2 ⟨rfl, hE⟩; have s2 : Ext V w2 := Ext.trans (by assumption) hE; clear hE)
              | (go_at_call 85; (with_reducible refine (NA.out _ (HTV.out _ (by assumption))).mono ?_); rintro r w3 ⟨va, rfl, hva, hE⟩; have s3 : Ext V w3 := Ext.trans (by assumption) hE; clear hE)
              | (go_at_call 85; (with_reducible refine (NC.out _ (HTV.out _ (by assumption))).mono ?_); rintro r w4 ⟨vc, rfl, hvc, hE⟩; have s4 : Ext V w4 := Ext.trans (by assumption) hE; have hva := hva.ext hE; clear hE)
              | (go_at_call 99; (refine (L1.out _ _ _ (by exact hva) (by exact hvc) (HTV.out _ (by assumption))).mono ?_); rintro r w5 ⟨rfl, hE⟩; have s5 : Ext V w5 := Ext.trans (by assumption) hE; clear hE)
              | (go_at_call 85; (with_reducible refine (ND.out _ (HTV.out _ (by assumption))).mono ?_); rintro r w6 ⟨vd, rfl, hvd, hE⟩; have s6 : Ext V w6 := Ext.trans (by assumption) hE; clear hE)
              | (go_at_call 85; (with_reducible refine (NB.out _ (HTV.out _ (by assumption))).mono ?_); rintro r w7 ⟨vb, rfl, hvb, hE⟩; have s7 : Ext V w7 := Ext.trans (by assumption) hE; have hvd := hvd.ext hE; clear hE)
              | (go_at_call 99; (refine (L2.out _ _ _ (by exact hvd) (by exact hvb) (HTV.out _ (by assumption))).mono ?_); rintro r w8 ⟨rfl, hE⟩; have s8 : Ext V w8 := Ext.trans (by assumption) hE; clear hE)
            )) | fail "no walk"
        have HF := Lib.hid (HB.out.trans s8)
        go_wp2
        go_ret
        exact ⟨rfl, HF.out⟩
end Go.Proofs.YtecaaklbhhjcjaaGreatDoor
