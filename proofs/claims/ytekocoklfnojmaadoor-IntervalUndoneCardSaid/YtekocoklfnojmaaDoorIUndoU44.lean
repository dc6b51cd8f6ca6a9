import Derived.Test.YtekocoklfnojmaaDoorIUndoU43
import Derived.Test.YtekocoklfnojmaaDoorIUndoU34
import Derived.Test.YtekocoklfnojmaaDoorIUndoU32
namespace Go.Proofs.YtekocoklfnojmaaDoor
/-- is the number of a dyad, rounded both ways, in an interval? -/
def contD (lo hi : Nat) (d : Dy) : Bool := subF (frdF d 1) (frdF d 2) lo hi
structure InI (a b p : Nat) : Prop where
  g : Good a b
  f : finB p = true
  l : p < 18446744073709551616
  lo : frank a ≤ frank p
  hi : frank p ≤ frank b
theorem InI.n {a b p : Nat} (h : InI a b p) : nanB p = false := fin_nan h.f
theorem InI.nm {a b p : Nat} (h : InI a b p) : Nm p := ⟨h.l, h.n⟩
theorem InI.of {a b p : Nat} (ha : a < 18446744073709551616) (hb : b < 18446744073709551616) (hp : p < 18446744073709551616) (h : contF a b p = true) : InI a b p := by
  unfold contF at h
  simp only [Bool.and_eq_true, decide_eq_true_eq] at h
  exact ⟨Good.of ha hb h.1.1.1, h.1.1.2, hp, h.1.2, h.2⟩
theorem InI.neg {a b p : Nat} (h : InI a b p) : InI (plainF (fnegF b)) (plainF (fnegF a)) (plainF (fnegF p)) ∧ fzs (plainF (fnegF p)) = -fzs p := by
  obtain ⟨g1, g2, g3⟩ := neg_good h.g
  obtain ⟨m1, m2, m3, m4⟩ := negp_facts h.l h.n
  have t := fin_top h.f
  have f := fin_of_rank m1 (by omega) (by omega)
  have h1 := h.lo
  have h2 := h.hi
  exact ⟨⟨g1, f, m2, by omega, by omega⟩, (m4 f).2⟩
end Go.Proofs.YtekocoklfnojmaaDoor

namespace Go.Proofs.YtekocoklfnojmaaDoor
open Go.RowKit

set_option maxRecDepth 100000 in
set_option maxHeartbeats 8000000 in
theorem isubset_any (a b c d : Nat) (ha : a < 18446744073709551616) (hb : b < 18446744073709551616) (hc : c < 18446744073709551616) (hd : d < 18446744073709551616) (z : Bool) (hz : subF a b c d = z) (w : World) :
    Calls Tryd.prog 6 #[.agg #[.int .u64 (a : Int), .int .u64 (b : Int)], .agg #[.int .u64 (c : Int), .int .u64 (d : Int)]] w fun e w' => e = .returned (.bool z) ∧ Ext w w' := by
  unfold subF at hz
  obtain ⟨v1, h1⟩ : ∃ v, validF a b = v := ⟨_, rfl⟩
  obtain ⟨v2, h2⟩ : ∃ v, validF c d = v := ⟨_, rfl⟩
  obtain ⟨l3, h3⟩ : ∃ v, lessF a c = v := ⟨_, rfl⟩
  obtain ⟨l4, h4⟩ : ∃ v, lessF d b = v := ⟨_, rfl⟩
  have C1 := Lib.hid (ivalid_at a b ha hb rfl rfl v1 h1)
  have C2 := Lib.hid (ivalid_at c d hc hd rfl rfl v2 h2)
  have C3 := Lib.hid (isLess_at a c ha hc rfl rfl l3 h3)
  have C4 := Lib.hid (isLess_at d b hd hb rfl rfl l4 h4)
  rw [h1, h2, h3, h4] at hz
  clear h1 h2 h3 h4 ha hb hc hd
  cases v1
  · obtain rfl : false = z := hz
    go_enter Tryd.func6, Tryd.ntmps6
    go_wp2_with fail
    obtain ⟨W, hW, hB, hx, hy, hsz⟩ := ibox_two w a b c d
    rw [← hW]
    clear hW
    have HB := Lib.hid hB
    generalize w.heap.size = B at hx hy ⊢
    clear hB hsz
    have c0 := hx.c0
    have c1 := hx.c1
    have c2 := hy.c0
    have c3 := hy.c1
    go_wp2_with fail
    refine (C1.out _).mono ?_
    rintro r w1 ⟨rfl, hE⟩
    have hx := hx.below hE
    have hy := hy.below hE
    have HB := Lib.hid (HB.out.trans hE)
    clear c0 c1 c2 c3 hE
    have c0 := hx.c0
    have c1 := hx.c1
    have c2 := hy.c0
    have c3 := hy.c1
    go_wp2
    go_ret
    exact ⟨rfl, HB.out⟩
  · cases v2
    · obtain rfl : false = z := hz
      go_enter Tryd.func6, Tryd.ntmps6
      go_wp2_with fail
      obtain ⟨W, hW, hB, hx, hy, hsz⟩ := ibox_two w a b c d
      rw [← hW]
      clear hW
      have HB := Lib.hid hB
      generalize w.heap.size = B at hx hy ⊢
      clear hB hsz
      have c0 := hx.c0
      have c1 := hx.c1
      have c2 := hy.c0
      have c3 := hy.c1
      go_wp2_with fail
      refine (C1.out _).mono ?_
      rintro r w1 ⟨rfl, hE⟩
      have hx := hx.below hE
      have hy := hy.below hE
      have HB := Lib.hid (HB.out.trans hE)
      clear c0 c1 c2 c3 hE
      have c0 := hx.c0
      have c1 := hx.c1
      have c2 := hy.c0
      have c3 := hy.c1
      go_wp2_with fail
      refine (C2.out _).mono ?_
      rintro r w2 ⟨rfl, hE⟩
      have hx := hx.below hE
      have hy := hy.below hE
      have HB := Lib.hid (HB.out.trans hE)
      clear c0 c1 c2 c3 hE
      have c0 := hx.c0
      have c1 := hx.c1
      have c2 := hy.c0
      have c3 := hy.c1
      go_wp2
      go_ret
      exact ⟨rfl, HB.out⟩
    · cases l3
      · cases l4
        · obtain rfl : true = z := hz
          go_enter Tryd.func6, Tryd.ntmps6
          go_wp2_with fail
          obtain ⟨W, hW, hB, hx, hy, hsz⟩ := ibox_two w a b c d
          rw [← hW]
          clear hW
          have HB := Lib.hid hB
          generalize w.heap.size = B at hx hy ⊢
          clear hB hsz
          have c0 := hx.c0
          have c1 := hx.c1
          have c2 := hy.c0
          have c3 := hy.c1
          go_wp2_with fail
          refine (C1.out _).mono ?_
          rintro r w1 ⟨rfl, hE⟩
          have hx := hx.below hE
          have hy := hy.below hE
          have HB := Lib.hid (HB.out.trans hE)
          clear c0 c1 c2 c3 hE
          have c0 := hx.c0
          have c1 := hx.c1
          have c2 := hy.c0
          have c3 := hy.c1
          go_wp2_with fail
          refine (C2.out _).mono ?_
          rintro r w2 ⟨rfl, hE⟩
          have hx := hx.below hE
          have hy := hy.below hE
          have HB := Lib.hid (HB.out.trans hE)
          clear c0 c1 c2 c3 hE
          have c0 := hx.c0
          have c1 := hx.c1
          have c2 := hy.c0
          have c3 := hy.c1
          go_wp2_with fail
          refine (C3.out _).mono ?_
          rintro r w3 ⟨rfl, hE⟩
          have hx := hx.below hE
          have hy := hy.below hE
          have HB := Lib.hid (HB.out.trans hE)
          clear c0 c1 c2 c3 hE
          have c0 := hx.c0
          have c1 := hx.c1
          have c2 := hy.c0
          have c3 := hy.c1
          go_wp2_with fail
          refine (C4.out _).mono ?_
          rintro r w4 ⟨rfl, hE⟩
          have hx := hx.below hE
          have hy := hy.below hE
          have HB := Lib.hid (HB.out.trans hE)
          clear c0 c1 c2 c3 hE
          have c0 := hx.c0
          have c1 := hx.c1
          have c2 := hy.c0
          have c3 := hy.c1
          go_wp2
          go_ret
          exact ⟨rfl, HB.out⟩
        · obtain rfl : false = z := hz
          go_enter Tryd.func6, Tryd.ntmps6
          go_wp2_with fail
          obtain ⟨W, hW, hB, hx, hy, hsz⟩ := ibox_two w a b c d
          rw [← hW]
          clear hW
          have HB := Lib.hid hB
          generalize w.heap.size = B at hx hy ⊢
          clear hB hsz
          have c0 := hx.c0
          have c1 := hx.c1
          have c2 := hy.c0
          have c3 := hy.c1
          go_wp2_with fail
          refine (C1.out _).mono ?_
          rintro r w1 ⟨rfl, hE⟩
          have hx := hx.below hE
          have hy := hy.below hE
          have HB := Lib.hid (HB.out.trans hE)
          clear c0 c1 c2 c3 hE
          have c0 := hx.c0
          have c1 := hx.c1
          have c2 := hy.c0
          have c3 := hy.c1
          go_wp2_with fail
          refine (C2.out _).mono ?_
          rintro r w2 ⟨rfl, hE⟩
          have hx := hx.below hE
          have hy := hy.below hE
          have HB := Lib.hid (HB.out.trans hE)
          clear c0 c1 c2 c3 hE
          have c0 := hx.c0
          have c1 := hx.c1
          have c2 := hy.c0
          have c3 := hy.c1
          go_wp2_with fail
          refine (C3.out _).mono ?_
          rintro r w3 ⟨rfl, hE⟩
          have hx := hx.below hE
          have hy := hy.below hE
          have HB := Lib.hid (HB.out.trans hE)
          clear c0 c1 c2 c3 hE
          have c0 := hx.c0
          have c1 := hx.c1
          have c2 := hy.c0
          have c3 := hy.c1
          go_wp2_with fail
          refine (C4.out _).mono ?_
          rintro r w4 ⟨rfl, hE⟩
          have hx := hx.below hE
          have hy := hy.below hE
          have HB := Lib.hid (HB.out.trans hE)
          clear c0 c1 c2 c3 hE
          have c0 := hx.c0
          have c1 := hx.c1
          have c2 := hy.c0
          have c3 := hy.c1
          go_wp2
          go_ret
          exact ⟨rfl, HB.out⟩
      · obtain rfl : false = z := by rw [← hz]; cases l4 <;> rfl
        go_enter Tryd.func6, Tryd.ntmps6
        go_wp2_with fail
        obtain ⟨W, hW, hB, hx, hy, hsz⟩ := ibox_two w a b c d
        rw [← hW]
        clear hW
        have HB := Lib.hid hB
        generalize w.heap.size = B at hx hy ⊢
        clear hB hsz
        have c0 := hx.c0
        have c1 := hx.c1
        have c2 := hy.c0
        have c3 := hy.c1
        go_wp2_with fail
        refine (C1.out _).mono ?_
        rintro r w1 ⟨rfl, hE⟩
        have hx := hx.below hE
        have hy := hy.below hE
        have HB := Lib.hid (HB.out.trans hE)
        clear c0 c1 c2 c3 hE
        have c0 := hx.c0
        have c1 := hx.c1
        have c2 := hy.c0
        have c3 := hy.c1
        go_wp2_with fail
        refine (C2.out _).mono ?_
        rintro r w2 ⟨rfl, hE⟩
        have hx := hx.below hE
        have hy := hy.below hE
        have HB := Lib.hid (HB.out.trans hE)
        clear c0 c1 c2 c3 hE
        have c0 := hx.c0
        have c1 := hx.c1
        have c2 := hy.c0
        have c3 := hy.c1
        go_wp2_with fail
        refine (C3.out _).mono ?_
        rintro r w3 ⟨rfl, hE⟩
        have hx := hx.below hE
        have hy := hy.below hE
        have HB := Lib.hid (HB.out.trans hE)
        clear c0 c1 c2 c3 hE
        have c0 := hx.c0
        have c1 := hx.c1
        have c2 := hy.c0
        have c3 := hy.c1
        go_wp2
        go_ret
        exact ⟨rfl, HB.out⟩

end Go.Proofs.YtekocoklfnojmaaDoor
