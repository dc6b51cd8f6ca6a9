import Derived.Test.YtecaaklbhhjcjaaGreatDoorIRelU29
namespace Go.Proofs.YtecaaklbhhjcjaaGreatDoor
open Go.RowKit

set_option maxRecDepth 100000 in
set_option maxHeartbeats 8000000 in
theorem isubset_any (a b c d : Nat) (ha : a < 18446744073709551616) (hb : b < 18446744073709551616) (hc : c < 18446744073709551616) (hd : d < 18446744073709551616) (z : Bool) (hz : subF a b c d = z) (w : World) :
    Calls Tryz.prog 41 #[.agg #[.int .u64 (a : Int), .int .u64 (b : Int)], .agg #[.int .u64 (c : Int), .int .u64 (d : Int)]] w fun e w' => e = .returned (.bool z) ∧ Ext w w' := by
  unfold subF at hz
  obtain ⟨v1, h1⟩ : ∃ v, validF a b = v := ⟨_, rfl⟩
  obtain ⟨v2, h2⟩ : ∃ v, validF c d = v := ⟨_, rfl⟩
  obtain ⟨l3, h3⟩ : ∃ v, lessF a c = v := ⟨_, rfl⟩
  obtain ⟨l4, h4⟩ : ∃ v, lessF d b = v := ⟨_, rfl⟩
  have C1 := Lib.hid (ivalid_at a b ha hb rfl rfl v1 h1)
  have C2 := Lib.hid (ivalid_at c d hc hd rfl rfl v2 h2)
  have C3 := Lib.hid (isLess_at a c ha hc rfl rfl l3 h3)
  have C4 := Lib.hid (isLess_at d b hd hb rfl rfl l4 h4)
  rw [h1, h2, h3, h4] at hz
  clear h1 h2 h3 h4 ha hb hc hd
  cases v1
  · obtain rfl : false = z := hz
    go_enter Tryz.func41, Tryz.ntmps41
    go_wp2_with fail
    obtain ⟨W, hW, hB, hx, hy, hsz⟩ := ibox_two w a b c d
    rw [← hW]
    clear hW
    have HB := Lib.hid hB
    generalize w.heap.size = B at hx hy ⊢
    clear hB hsz
    have c0 := hx.c0
    have c1 := hx.c1
    have c2 := hy.c0
    have c3 := hy.c1
    go_wp2_with fail
    refine (C1.out _).mono ?_
    rintro r w1 ⟨rfl, hE⟩
    have hx := hx.below hE
    have hy := hy.below hE
    have HB := Lib.hid (HB.out.trans hE)
    clear c0 c1 c2 c3 hE
    have c0 := hx.c0
    have c1 := hx.c1
    have c2 := hy.c0
    have c3 := hy.c1
    go_wp2
    go_ret
    exact ⟨rfl, HB.out⟩
  · cases v2
    · obtain rfl : false = z := hz
      go_enter Tryz.func41, Tryz.ntmps41
      go_wp2_with fail
      obtain ⟨W, hW, hB, hx, hy, hsz⟩ := ibox_two w a b c d
      rw [← hW]
      clear hW
      have HB := Lib.hid hB
      generalize w.heap.size = B at hx hy ⊢
      clear hB hsz
      have c0 := hx.c0
      have c1 := hx.c1
      have c2 := hy.c0
      have c3 := hy.c1
      go_wp2_with fail
      refine (C1.out _).mono ?_
      rintro r w1 ⟨rfl, hE⟩
      have hx := hx.below hE
      have hy := hy.below hE
      have HB := Lib.hid (HB.out.trans hE)
      clear c0 c1 c2 c3 hE
      have c0 := hx.c0
      have c1 := hx.c1
      have c2 := hy.c0
      have c3 := hy.c1
      go_wp2_with fail
      refine (C2.out _).mono ?_
      rintro r w2 ⟨rfl, hE⟩
      have hx := hx.below hE
      have hy := hy.below hE
      have HB := Lib.hid (HB.out.trans hE)
      clear c0 c1 c2 c3 hE
      have c0 := hx.c0
      have c1 := hx.c1
      have c2 := hy.c0
      have c3 := hy.c1
      go_wp2
      go_ret
      exact ⟨rfl, HB.out⟩
    · cases l3
      · cases l4
        · obtain rfl : true = z := hz
          go_enter Tryz.func41, Tryz.ntmps41
          go_wp2_with fail
          obtain ⟨W, hW, hB, hx, hy, hsz⟩ := ibox_two w a b c d
          rw [← hW]
          clear hW
          have HB := Lib.hid hB
          generalize w.heap.size = B at hx hy ⊢
          clear hB hsz
          have c0 := hx.c0
          have c1 := hx.c1
          have c2 := hy.c0
          have c3 := hy.c1
          go_wp2_with fail
          refine (C1.out _).mono ?_
          rintro r w1 ⟨rfl, hE⟩
          have hx := hx.below hE
          have hy := hy.below hE
          have HB := Lib.hid (HB.out.trans hE)
          clear c0 c1 c2 c3 hE
          have c0 := hx.c0
          have c1 := hx.c1
          have c2 := hy.c0
          have c3 := hy.c1
          go_wp2_with fail
          refine (C2.out _).mono ?_
          rintro r w2 ⟨rfl, hE⟩
          have hx := hx.below hE
          have hy := hy.below hE
          have HB := Lib.hid (HB.out.trans hE)
          clear c0 c1 c2 c3 hE
          have c0 := hx.c0
          have c1 := hx.c1
          have c2 := hy.c0
          have c3 := hy.c1
          go_wp2_with fail
          refine (C3.out _).mono ?_
          rintro r w3 ⟨rfl, hE⟩
          have hx := hx.below hE
          have hy := hy.below hE
          have HB := Lib.hid (HB.out.trans hE)
          clear c0 c1 c2 c3 hE
          have c0 := hx.c0
          have c1 := hx.c1
          have c2 := hy.c0
          have c3 := hy.c1
          go_wp2_with fail
          refine (C4.out _).mono ?_
          rintro r w4 ⟨rfl, hE⟩
          have hx := hx.below hE
          have hy := hy.below hE
          have HB := Lib.hid (HB.out.trans hE)
          clear c0 c1 c2 c3 hE
          have c0 := hx.c0
          have c1 := hx.c1
          have c2 := hy.c0
          have c3 := hy.c1
          go_wp2
          go_ret
          exact ⟨rfl, HB.out⟩
        · obtain rfl : false = z := hz
          go_enter Tryz.func41, Tryz.ntmps41
          go_wp2_with fail
          obtain ⟨W, hW, hB, hx, hy, hsz⟩ := ibox_two w a b c d
          rw [← hW]
          clear hW
          have HB := Lib.hid hB
          generalize w.heap.size = B at hx hy ⊢
          clear hB hsz
          have c0 := hx.c0
          have c1 := hx.c1
          have c2 := hy.c0
          have c3 := hy.c1
          go_wp2_with fail
          refine (C1.out _).mono ?_
          rintro r w1 ⟨rfl, hE⟩
          have hx := hx.below hE
          have hy := hy.below hE
          have HB := Lib.hid (HB.out.trans hE)
          clear c0 c1 c2 c3 hE
          have c0 := hx.c0
          have c1 := hx.c1
          have c2 := hy.c0
          have c3 := hy.c1
          go_wp2_with fail
          refine (C2.out _).mono ?_
          rintro r w2 ⟨rfl, hE⟩
          have hx := hx.below hE
          have hy := hy.below hE
          have HB := Lib.hid (HB.out.trans hE)
          clear c0 c1 c2 c3 hE
          have c0 := hx.c0
          have c1 := hx.c1
          have c2 := hy.c0
          have c3 := hy.c1
          go_wp2_with fail
          refine (C3.out _).mono ?_
          rintro r w3 ⟨rfl, hE⟩
          have hx := hx.below hE
          have hy := hy.below hE
          have HB := Lib.hid (HB.out.trans hE)
          clear c0 c1 c2 c3 hE
          have c0 := hx.c0
          have c1 := hx.c1
          have c2 := hy.c0
          have c3 := hy.c1
          go_wp2_with fail
          refine (C4.out _).mono ?_
          rintro r w4 ⟨rfl, hE⟩
          have hx := hx.below hE
          have hy := hy.below hE
          have HB := Lib.hid (HB.out.trans hE)
          clear c0 c1 c2 c3 hE
          have c0 := hx.c0
          have c1 := hx.c1
          have c2 := hy.c0
          have c3 := hy.c1
          go_wp2
          go_ret
          exact ⟨rfl, HB.out⟩
      · obtain rfl : false = z := by rw [← hz]; cases l4 <;> rfl
        go_enter Tryz.func41, Tryz.ntmps41
        go_wp2_with fail
        obtain ⟨W, hW, hB, hx, hy, hsz⟩ := ibox_two w a b c d
        rw [← hW]
        clear hW
        have HB := Lib.hid hB
        generalize w.heap.size = B at hx hy ⊢
        clear hB hsz
        have c0 := hx.c0
        have c1 := hx.c1
        have c2 := hy.c0
        have c3 := hy.c1
        go_wp2_with fail
        refine (C1.out _).mono ?_
        rintro r w1 ⟨rfl, hE⟩
        have hx := hx.below hE
        have hy := hy.below hE
        have HB := Lib.hid (HB.out.trans hE)
        clear c0 c1 c2 c3 hE
        have c0 := hx.c0
        have c1 := hx.c1
        have c2 := hy.c0
        have c3 := hy.c1
        go_wp2_with fail
        refine (C2.out _).mono ?_
        rintro r w2 ⟨rfl, hE⟩
        have hx := hx.below hE
        have hy := hy.below hE
        have HB := Lib.hid (HB.out.trans hE)
        clear c0 c1 c2 c3 hE
        have c0 := hx.c0
        have c1 := hx.c1
        have c2 := hy.c0
        have c3 := hy.c1
        go_wp2_with fail
        refine (C3.out _).mono ?_
        rintro r w3 ⟨rfl, hE⟩
        have hx := hx.below hE
        have hy := hy.below hE
        have HB := Lib.hid (HB.out.trans hE)
        clear c0 c1 c2 c3 hE
        have c0 := hx.c0
        have c1 := hx.c1
        have c2 := hy.c0
        have c3 := hy.c1
        go_wp2
        go_ret
        exact ⟨rfl, HB.out⟩

set_option maxRecDepth 100000 in
set_option maxHeartbeats 8000000 in
theorem iinterior_any (a b c d : Nat) (ha : a < 18446744073709551616) (hb : b < 18446744073709551616) (hc : c < 18446744073709551616) (hd : d < 18446744073709551616) (z : Bool) (hz : interF a b c d = z) (w : World) :
    Calls Tryz.prog 43 #[.agg #[.int .u64 (a : Int), .int .u64 (b : Int)], .agg #[.int .u64 (c : Int), .int .u64 (d : Int)]] w fun e w' => e = .returned (.bool z) ∧ Ext w w' := by
  unfold interF at hz
  obtain ⟨v1, h1⟩ : ∃ v, validF a b = v := ⟨_, rfl⟩
  obtain ⟨v2, h2⟩ : ∃ v, validF c d = v := ⟨_, rfl⟩
  obtain ⟨l3, h3⟩ : ∃ v, lessF c a = v := ⟨_, rfl⟩
  obtain ⟨l4, h4⟩ : ∃ v, lessF b d = v := ⟨_, rfl⟩
  have C1 := Lib.hid (ivalid_at a b ha hb rfl rfl v1 h1)
  have C2 := Lib.hid (ivalid_at c d hc hd rfl rfl v2 h2)
  have C3 := Lib.hid (isLess_at c a hc ha rfl rfl l3 h3)
  have C4 := Lib.hid (isLess_at b d hb hd rfl rfl l4 h4)
  have e5 : ((c : Int) == 18442240474082181120) = decide (c = 18442240474082181120) := by
    by_cases h : c = 18442240474082181120
    · rw [decide_eq_true h, beq_iff_eq]; omega
    · rw [decide_eq_false h, beq_eq_false_iff_ne]; omega
  have e6 : ((d : Int) == 9218868437227405312) = decide (d = 9218868437227405312) := by
    by_cases h : d = 9218868437227405312
    · rw [decide_eq_true h, beq_iff_eq]; omega
    · rw [decide_eq_false h, beq_eq_false_iff_ne]; omega
  rw [h1, h2, h3, h4] at hz
  generalize decide (c = 18442240474082181120) = x5 at *
  generalize decide (d = 9218868437227405312) = x6 at *
  clear h1 h2 h3 h4 ha hb hc hd
  cases v1
  · obtain rfl : false = z := hz
    clear e5 e6
    go_enter Tryz.func43, Tryz.ntmps43
    go_wp2_with fail
    obtain ⟨W, hW, hB, hx, hy, hsz⟩ := ibox_two w a b c d
    rw [← hW]
    clear hW
    have HB := Lib.hid hB
    generalize w.heap.size = B at hx hy ⊢
    clear hB hsz
    have c0 := hx.c0
    have c1 := hx.c1
    have c2 := hy.c0
    have c3 := hy.c1
    go_wp2_with fail
    refine (C1.out _).mono ?_
    rintro r w1 ⟨rfl, hE⟩
    have hx := hx.below hE
    have hy := hy.below hE
    have HB := Lib.hid (HB.out.trans hE)
    clear c0 c1 c2 c3 hE
    have c0 := hx.c0
    have c1 := hx.c1
    have c2 := hy.c0
    have c3 := hy.c1
    go_wp2
    go_ret
    exact ⟨rfl, HB.out⟩
  · cases v2
    · obtain rfl : false = z := hz
      clear e5 e6
      go_enter Tryz.func43, Tryz.ntmps43
      go_wp2_with fail
      obtain ⟨W, hW, hB, hx, hy, hsz⟩ := ibox_two w a b c d
      rw [← hW]
      clear hW
      have HB := Lib.hid hB
      generalize w.heap.size = B at hx hy ⊢
      clear hB hsz
      have c0 := hx.c0
      have c1 := hx.c1
      have c2 := hy.c0
      have c3 := hy.c1
      go_wp2_with fail
      refine (C1.out _).mono ?_
      rintro r w1 ⟨rfl, hE⟩
      have hx := hx.below hE
      have hy := hy.below hE
      have HB := Lib.hid (HB.out.trans hE)
      clear c0 c1 c2 c3 hE
      have c0 := hx.c0
      have c1 := hx.c1
      have c2 := hy.c0
      have c3 := hy.c1
      go_wp2_with fail
      refine (C2.out _).mono ?_
      rintro r w2 ⟨rfl, hE⟩
      have hx := hx.below hE
      have hy := hy.below hE
      have HB := Lib.hid (HB.out.trans hE)
      clear c0 c1 c2 c3 hE
      have c0 := hx.c0
      have c1 := hx.c1
      have c2 := hy.c0
      have c3 := hy.c1
      go_wp2
      go_ret
      exact ⟨rfl, HB.out⟩
    · cases l3
      · cases x5
        · obtain rfl : false = z := by rw [← hz]; cases l4 <;> cases x6 <;> rfl
          go_enter Tryz.func43, Tryz.ntmps43
          go_wp2_with fail
          obtain ⟨W, hW, hB, hx, hy, hsz⟩ := ibox_two w a b c d
          rw [← hW]
          clear hW
          have HB := Lib.hid hB
          generalize w.heap.size = B at hx hy ⊢
          clear hB hsz
          have c0 := hx.c0
          have c1 := hx.c1
          have c2 := hy.c0
          have c3 := hy.c1
          go_wp2_with fail
          refine (C1.out _).mono ?_
          rintro r w1 ⟨rfl, hE⟩
          have hx := hx.below hE
          have hy := hy.below hE
          have HB := Lib.hid (HB.out.trans hE)
          clear c0 c1 c2 c3 hE
          have c0 := hx.c0
          have c1 := hx.c1
          have c2 := hy.c0
          have c3 := hy.c1
          go_wp2_with fail
          refine (C2.out _).mono ?_
          rintro r w2 ⟨rfl, hE⟩
          have hx := hx.below hE
          have hy := hy.below hE
          have HB := Lib.hid (HB.out.trans hE)
          clear c0 c1 c2 c3 hE
          have c0 := hx.c0
          have c1 := hx.c1
          have c2 := hy.c0
          have c3 := hy.c1
          go_wp2_with fail
          refine (C3.out _).mono ?_
          rintro r w3 ⟨rfl, hE⟩
          have hx := hx.below hE
          have hy := hy.below hE
          have HB := Lib.hid (HB.out.trans hE)
          clear c0 c1 c2 c3 hE
          have c0 := hx.c0
          have c1 := hx.c1
          have c2 := hy.c0
          have c3 := hy.c1
          go_wp2
          go_ret
          exact ⟨rfl, HB.out⟩
        · cases l4
          · obtain rfl : x6 = z := hz
            go_enter Tryz.func43, Tryz.ntmps43
            go_wp2_with fail
            obtain ⟨W, hW, hB, hx, hy, hsz⟩ := ibox_two w a b c d
            rw [← hW]
            clear hW
            have HB := Lib.hid hB
            generalize w.heap.size = B at hx hy ⊢
            clear hB hsz
            have c0 := hx.c0
            have c1 := hx.c1
            have c2 := hy.c0
            have c3 := hy.c1
            go_wp2_with fail
            refine (C1.out _).mono ?_
            rintro r w1 ⟨rfl, hE⟩
            have hx := hx.below hE
            have hy := hy.below hE
            have HB := Lib.hid (HB.out.trans hE)
            clear c0 c1 c2 c3 hE
            have c0 := hx.c0
            have c1 := hx.c1
            have c2 := hy.c0
            have c3 := hy.c1
            go_wp2_with fail
            refine (C2.out _).mono ?_
            rintro r w2 ⟨rfl, hE⟩
            have hx := hx.below hE
            have hy := hy.below hE
            have HB := Lib.hid (HB.out.trans hE)
            clear c0 c1 c2 c3 hE
            have c0 := hx.c0
            have c1 := hx.c1
            have c2 := hy.c0
            have c3 := hy.c1
            go_wp2_with fail
            refine (C3.out _).mono ?_
            rintro r w3 ⟨rfl, hE⟩
            have hx := hx.below hE
            have hy := hy.below hE
            have HB := Lib.hid (HB.out.trans hE)
            clear c0 c1 c2 c3 hE
            have c0 := hx.c0
            have c1 := hx.c1
            have c2 := hy.c0
            have c3 := hy.c1
            go_wp2_with fail
            refine (C4.out _).mono ?_
            rintro r w4 ⟨rfl, hE⟩
            have hx := hx.below hE
            have hy := hy.below hE
            have HB := Lib.hid (HB.out.trans hE)
            clear c0 c1 c2 c3 hE
            have c0 := hx.c0
            have c1 := hx.c1
            have c2 := hy.c0
            have c3 := hy.c1
            go_wp2
            go_ret
            exact ⟨rfl, HB.out⟩
          · obtain rfl : true = z := hz
            go_enter Tryz.func43, Tryz.ntmps43
            go_wp2_with fail
            obtain ⟨W, hW, hB, hx, hy, hsz⟩ := ibox_two w a b c d
            rw [← hW]
            clear hW
            have HB := Lib.hid hB
            generalize w.heap.size = B at hx hy ⊢
            clear hB hsz
            have c0 := hx.c0
            have c1 := hx.c1
            have c2 := hy.c0
            have c3 := hy.c1
            go_wp2_with fail
            refine (C1.out _).mono ?_
            rintro r w1 ⟨rfl, hE⟩
            have hx := hx.below hE
            have hy := hy.below hE
            have HB := Lib.hid (HB.out.trans hE)
            clear c0 c1 c2 c3 hE
            have c0 := hx.c0
            have c1 := hx.c1
            have c2 := hy.c0
            have c3 := hy.c1
            go_wp2_with fail
            refine (C2.out _).mono ?_
            rintro r w2 ⟨rfl, hE⟩
            have hx := hx.below hE
            have hy := hy.below hE
            have HB := Lib.hid (HB.out.trans hE)
            clear c0 c1 c2 c3 hE
            have c0 := hx.c0
            have c1 := hx.c1
            have c2 := hy.c0
            have c3 := hy.c1
            go_wp2_with fail
            refine (C3.out _).mono ?_
            rintro r w3 ⟨rfl, hE⟩
            have hx := hx.below hE
            have hy := hy.below hE
            have HB := Lib.hid (HB.out.trans hE)
            clear c0 c1 c2 c3 hE
            have c0 := hx.c0
            have c1 := hx.c1
            have c2 := hy.c0
            have c3 := hy.c1
            go_wp2_with fail
            refine (C4.out _).mono ?_
            rintro r w4 ⟨rfl, hE⟩
            have hx := hx.below hE
            have hy := hy.below hE
            have HB := Lib.hid (HB.out.trans hE)
            clear c0 c1 c2 c3 hE
            have c0 := hx.c0
            have c1 := hx.c1
            have c2 := hy.c0
            have c3 := hy.c1
            go_wp2
            go_ret
            exact ⟨rfl, HB.out⟩
      · cases l4
        · obtain rfl : x6 = z := hz
          go_enter Tryz.func43, Tryz.ntmps43
          go_wp2_with fail
          obtain ⟨W, hW, hB, hx, hy, hsz⟩ := ibox_two w a b c d
          rw [← hW]
          clear hW
          have HB := Lib.hid hB
          generalize w.heap.size = B at hx hy ⊢
          clear hB hsz
          have c0 := hx.c0
          have c1 := hx.c1
          have c2 := hy.c0
          have c3 := hy.c1
          go_wp2_with fail
          refine (C1.out _).mono ?_
          rintro r w1 ⟨rfl, hE⟩
          have hx := hx.below hE
          have hy := hy.below hE
          have HB := Lib.hid (HB.out.trans hE)
          clear c0 c1 c2 c3 hE
          have c0 := hx.c0
          have c1 := hx.c1
          have c2 := hy.c0
          have c3 := hy.c1
          go_wp2_with fail
          refine (C2.out _).mono ?_
          rintro r w2 ⟨rfl, hE⟩
          have hx := hx.below hE
          have hy := hy.below hE
          have HB := Lib.hid (HB.out.trans hE)
          clear c0 c1 c2 c3 hE
          have c0 := hx.c0
          have c1 := hx.c1
          have c2 := hy.c0
          have c3 := hy.c1
          go_wp2_with fail
          refine (C3.out _).mono ?_
          rintro r w3 ⟨rfl, hE⟩
          have hx := hx.below hE
          have hy := hy.below hE
          have HB := Lib.hid (HB.out.trans hE)
          clear c0 c1 c2 c3 hE
          have c0 := hx.c0
          have c1 := hx.c1
          have c2 := hy.c0
          have c3 := hy.c1
          go_wp2_with fail
          refine (C4.out _).mono ?_
          rintro r w4 ⟨rfl, hE⟩
          have hx := hx.below hE
          have hy := hy.below hE
          have HB := Lib.hid (HB.out.trans hE)
          clear c0 c1 c2 c3 hE
          have c0 := hx.c0
          have c1 := hx.c1
          have c2 := hy.c0
          have c3 := hy.c1
          go_wp2
          go_ret
          exact ⟨rfl, HB.out⟩
        · obtain rfl : true = z := hz
          go_enter Tryz.func43, Tryz.ntmps43
          go_wp2_with fail
          obtain ⟨W, hW, hB, hx, hy, hsz⟩ := ibox_two w a b c d
          rw [← hW]
          clear hW
          have HB := Lib.hid hB
          generalize w.heap.size = B at hx hy ⊢
          clear hB hsz
          have c0 := hx.c0
          have c1 := hx.c1
          have c2 := hy.c0
          have c3 := hy.c1
          go_wp2_with fail
          refine (C1.out _).mono ?_
          rintro r w1 ⟨rfl, hE⟩
          have hx := hx.below hE
          have hy := hy.below hE
          have HB := Lib.hid (HB.out.trans hE)
          clear c0 c1 c2 c3 hE
          have c0 := hx.c0
          have c1 := hx.c1
          have c2 := hy.c0
          have c3 := hy.c1
          go_wp2_with fail
          refine (C2.out _).mono ?_
          rintro r w2 ⟨rfl, hE⟩
          have hx := hx.below hE
          have hy := hy.below hE
          have HB := Lib.hid (HB.out.trans hE)
          clear c0 c1 c2 c3 hE
          have c0 := hx.c0
          have c1 := hx.c1
          have c2 := hy.c0
          have c3 := hy.c1
          go_wp2_with fail
          refine (C3.out _).mono ?_
          rintro r w3 ⟨rfl, hE⟩
          have hx := hx.below hE
          have hy := hy.below hE
          have HB := Lib.hid (HB.out.trans hE)
          clear c0 c1 c2 c3 hE
          have c0 := hx.c0
          have c1 := hx.c1
          have c2 := hy.c0
          have c3 := hy.c1
          go_wp2_with fail
          refine (C4.out _).mono ?_
          rintro r w4 ⟨rfl, hE⟩
          have hx := hx.below hE
          have hy := hy.below hE
          have HB := Lib.hid (HB.out.trans hE)
          clear c0 c1 c2 c3 hE
          have c0 := hx.c0
          have c1 := hx.c1
          have c2 := hy.c0
          have c3 := hy.c1
          go_wp2
          go_ret
          exact ⟨rfl, HB.out⟩

end Go.Proofs.YtecaaklbhhjcjaaGreatDoor
