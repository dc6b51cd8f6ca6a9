import Derived.Test.YtecaaklbhhjcjaaGreatDoorIRelU33
import Derived.Test.YtecaaklbhhjcjaaGreatDoorIRelU27
namespace Go.Proofs.YtecaaklbhhjcjaaGreatDoor
open Go.RowKit

set_option maxRecDepth 100000 in
set_option maxHeartbeats 4000000 in
theorem refMeet_no (a b c d : Nat) (ha : a < 18446744073709551616) (hb : b < 18446744073709551616) (hc : c < 18446744073709551616) (hd : d < 18446744073709551616) (h : validF a b = false ∨ validF c d = false) (w : World) (x y : Int) :
    Calls Tryz.prog 38 #[.agg #[.int .u64 (a : Int), .int .u64 (b : Int)], .agg #[.int .u64 (c : Int), .int .u64 (d : Int)]] w fun e w' => e = .returned (meetV x y false) ∧ Ext w w' := by
  obtain ⟨v1, h1⟩ : ∃ v, validF a b = v := ⟨_, rfl⟩
  obtain ⟨v2, h2⟩ : ∃ v, validF c d = v := ⟨_, rfl⟩
  have C1 := Lib.hid (fun w => refValid_any a b ha hb v1 h1 w)
  have C2 := Lib.hid (fun w => refValid_any c d hc hd v2 h2 w)
  have hv : v1 = false ∨ v1 = true ∧ v2 = false := by
    rw [h1, h2] at h
    cases v1
    · exact Or.inl rfl
    · rcases h with h | h
      · cases h
      · exact Or.inr ⟨rfl, h⟩
  clear h h1 h2 ha hb hc hd
  go_enter Tryz.func38, Tryz.ntmps38
  go_upto_region 1 with fail
  obtain ⟨W, hW, hB, hx, hy, hbx, hsz⟩ := ibox_three w a b c d 0 0
  rw [← hW]
  clear hW
  generalize hBe : w.heap.size = B at *
  have HBe := Lib.hid hBe
  have HB : Hid (Below B w W) := Lib.hid (by rw [← hBe]; exact hB)
  clear hBe hB
  have hBs : B + 3 ≤ W.heap.size := hsz
  clear hsz
  have c0 := hx.c0
  have c1 := hx.c1
  have c2 := hy.c0
  have c3 := hy.c1
  go_wp2_with fail
  refine (C1.out _).mono ?_
  rintro r w1 ⟨rfl, hE⟩
  have hx := hx.below hE
  have hy := hy.below hE
  have hbx := hbx.below hE
  have HB := Lib.hid (HB.out.trans (Below.mono hE (by omega)))
  have hBs : B + 3 ≤ w1.heap.size := by have := Below.size hE; omega
  clear c0 c1 c2 c3 hE
  have c0 := hx.c0
  have c1 := hx.c1
  have c2 := hy.c0
  have c3 := hy.c1
  rcases hv with rfl | ⟨rfl, rfl⟩
  · have q0 := hbx.c0
    have q1 := hbx.c1
    have q2 := hbx.f 0
    have q3 := hbx.f 1
    have hst := hbx.stored 0 0
    have z0 := hst.c0
    have z1 := hst.c1
    have HF := Lib.hid (HB.out.trans ((only_iset2 w1 (B + 1 + 1) (.int .u64 0) (.int .u64 0)).below (by omega)))
    clear hst
    go_wp2
    refine bodyPost_ret (v := .tuple #[.agg #[.int .u64 0, .int .u64 0], .bool false]) (by simp [results, Tryz.results38, go_sem, z0, z1]) rfl ⟨rfl, ?_⟩
    show Below _ _ _
    rw [HBe.out]
    exact HF.out
  · go_wp2_with fail
    refine (C2.out _).mono ?_
    rintro r V ⟨rfl, hE⟩
    have hbx := hbx.below hE
    have HB := Lib.hid (HB.out.trans (Below.mono hE (by omega)))
    have hBs : B + 3 ≤ V.heap.size := by have := Below.size hE; omega
    clear c0 c1 c2 c3 hE hx hy
    have q0 := hbx.c0
    have q1 := hbx.c1
    have q2 := hbx.f 0
    have q3 := hbx.f 1
    have hst := hbx.stored 0 0
    have z0 := hst.c0
    have z1 := hst.c1
    have HF := Lib.hid (HB.out.trans ((only_iset2 V (B + 1 + 1) (.int .u64 0) (.int .u64 0)).below (by omega)))
    clear hst
    go_wp2
    refine bodyPost_ret (v := .tuple #[.agg #[.int .u64 0, .int .u64 0], .bool false]) (by simp [results, Tryz.results38, go_sem, z0, z1]) rfl ⟨rfl, ?_⟩
    show Below _ _ _
    rw [HBe.out]
    exact HF.out
end Go.Proofs.YtecaaklbhhjcjaaGreatDoor

namespace Go.Proofs.YtecaaklbhhjcjaaGreatDoor
open Go Go.RowKit

theorem Act.put_undef {a : Act} {dst : Option Tmp} (hd : ∀ d, dst = some d → a.tmps[d]? = some undef) : a.put dst undef = a := by
  unfold Act.put
  cases dst with
  | none => rfl
  | some d =>
    have h := hd d rfl
    cases a with
    | mk tmps defers =>
      simp only at h ⊢
      congr 1
      apply Array.ext_getElem?
      intro i
      rw [Array.getElem?_setIfInBounds]
      split
      · next e =>
        subst e
        split
        · exact h.symm
        · next hn => rw [Array.getElem?_eq_none (by omega)]
      · rfl
theorem wpAny_off {P : Program} {md : Region.Mode} {ops : Array Oper} {Q : Exit → Act → World → Prop} {i : Nat} {oi : Oper} {fuel : Nat} {listed : Array Bool} {a : Act} {w : World} (hi : ops[i]? = some oi)
    (hs : Region.noSelect ops = true) (hf : Region.free md ops listed i = true) (hr : (Region.ready md ops listed).contains i = true)
    (hQ : ∀ c a w, Q (.panic c) (a.put oi.dst undef) w → Q (.panic c) a w) (hw : Region.wanted oi (yielded ops a.tmps) = false) (hd : oi.dst.bind (fun d => a.tmps[d]?) = oi.dst.map (fun _ => undef))
    (h : wpAny P md ops Q fuel (listed.setIfInBounds i true) a w) : wpAny P md ops Q (fuel + 1) listed a w := by
  refine wpAny_take (v := undef) hi hs hf hr hQ (Or.inr ⟨hw, rfl⟩) ?_
  rw [Act.put_undef]
  · exact h
  · intro d e
    rw [e] at hd
    exact hd
end Go.Proofs.YtecaaklbhhjcjaaGreatDoor
