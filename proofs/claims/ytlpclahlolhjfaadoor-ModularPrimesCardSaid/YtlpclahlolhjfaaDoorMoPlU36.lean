import Derived.Test.YtlpclahlolhjfaaDoorMoPlU35
import Derived.Test.YtlpclahlolhjfaaDoorMoPlU29
import Derived.BigQuiet
import Derived.Deep.QuietTactic
namespace Go.Proofs.YtlpclahlolhjfaaDoor
open Go Go.RowKit

set_option maxRecDepth 100000 in
set_option maxHeartbeats 2000000 in
theorem findPivot_yes (e b c pc : Nat) (w : World) (he : VBlk w e #[.int .i64 7, .slice (some ⟨b, 0, none⟩) 1 1, .slice none 0 pc, .int .i64 1] 47) (hb : VBlk w b #[.slice (some ⟨c, 0, none⟩) 2 2] 25) (hc : VBlk w c #[.int .i64 1, .int .i64 2] 3) :
    Calls Tryd.prog 39 #[.pointer (some ⟨e, 0, none⟩), .int .i64 0] w fun r w' => r = .returned (.bool true) ∧ w = w' := by
  have e0 := he.c 0
  have e1 := he.c 1
  have e2 := he.c 2
  have e3 := he.c 3
  have b0 := hb.c 0
  have c0 := hc.c 0
  have c1 := hc.c 1
  clear he hb hc
  go_enter Tryd.func39, Tryd.ntmps39
  go_wp2
  refine wp_loop_rounds 1 ?_
  rw [rounds_succ]
  go_wp2
  go_ret
  exact ⟨rfl, rfl⟩

set_option maxRecDepth 100000 in
set_option maxHeartbeats 2000000 in
theorem findPivot_no (e b c q pc : Nat) (w : World) (he : VBlk w e #[.int .i64 7, .slice (some ⟨b, 0, none⟩) 1 1, .slice (some ⟨q, 0, none⟩) 1 pc, .int .i64 1] 47) (hb : VBlk w b #[.slice (some ⟨c, 0, none⟩) 2 2] 25) (hc : VBlk w c #[.int .i64 1, .int .i64 2] 3) :
    Calls Tryd.prog 39 #[.pointer (some ⟨e, 0, none⟩), .int .i64 1] w fun r w' => r = .returned (.bool false) ∧ w = w' := by
  have e0 := he.c 0
  have e1 := he.c 1
  have e2 := he.c 2
  have e3 := he.c 3
  have b0 := hb.c 0
  have c0 := hc.c 0
  have c1 := hc.c 1
  clear he hb hc
  go_enter Tryd.func39, Tryd.ntmps39
  go_wp2
  refine wp_loop_rounds 1 ?_
  rw [rounds_succ]
  go_wp2
  go_ret
  exact ⟨rfl, rfl⟩

set_option maxRecDepth 100000 in
set_option maxHeartbeats 2000000 in
theorem clearColumn_12 (e b c pc : Nat) (w : World) (he : VBlk w e #[.int .i64 7, .slice (some ⟨b, 0, none⟩) 1 1, .slice none 0 pc, .int .i64 1] 47) (hb : VBlk w b #[.slice (some ⟨c, 0, none⟩) 2 2] 25) (hc : VBlk w c #[.int .i64 1, .int .i64 2] 3) :
    Calls Tryd.prog 41 #[.pointer (some ⟨e, 0, none⟩), .int .i64 0] w fun r w' => (∃ u, r = .returned u) ∧ w = w' := by
  have e0 := he.c 0
  have e1 := he.c 1
  have e2 := he.c 2
  have e3 := he.c 3
  have b0 := hb.c 0
  have c0 := hc.c 0
  have c1 := hc.c 1
  clear he hb hc
  go_enter Tryd.func41, Tryd.ntmps41
  go_wp2
  refine wp_loop_rounds 2 ?_
  rw [rounds_succ]
  go_wp2
  rw [rounds_succ]
  go_wp2
  first | (refine bodyPost_ret (results_none rfl _ _ _) rfl ?_; exact ⟨⟨_, rfl⟩, rfl⟩) | exact ⟨rfl, _, results_none rfl _ _ _, ⟨_, rfl⟩, rfl⟩

set_option maxRecDepth 100000 in
set_option maxHeartbeats 2000000 in
theorem firstFree_12 (e b c q pc : Nat) (w : World) (he : VBlk w e #[.int .i64 7, .slice (some ⟨b, 0, none⟩) 1 1, .slice (some ⟨q, 0, none⟩) 1 pc, .int .i64 1] 47) (hb : VBlk w b #[.slice (some ⟨c, 0, none⟩) 2 2] 25) (hc : VBlk w c #[.int .i64 1, .int .i64 2] 3) (hq : w.cell? ⟨q, 0, none⟩ = some (.int .i64 0)) :
    Calls Tryd.prog 21 #[.pointer (some ⟨e, 0, none⟩)] w fun r w' => r = .returned (.int .i64 1) ∧ w = w' := by
  have e0 := he.c 0
  have e1 := he.c 1
  have e2 := he.c 2
  have e3 := he.c 3
  have b0 := hb.c 0
  have c0 := hc.c 0
  have c1 := hc.c 1
  clear he hb hc
  go_enter Tryd.func21, Tryd.ntmps21
  go_wp2
  refine wp_loop_rounds 2 ?_
  rw [rounds_succ]
  go_wp2
  rw [rounds_succ]
  go_wp2
  go_ret
  exact ⟨rfl, rfl⟩

theorem inv17 : invZ 1 7 = 1 := by decide +kernel

set_option maxRecDepth 100000 in
set_option maxHeartbeats 2000000 in
theorem scalePivot_12 (e b c pc : Nat) (w : World) (he : VBlk w e #[.int .i64 7, .slice (some ⟨b, 0, none⟩) 1 1, .slice none 0 pc, .int .i64 1] 47) (hb : VBlk w b #[.slice (some ⟨c, 0, none⟩) 2 2] 25) (hc : VBlk w c #[.int .i64 1, .int .i64 2] 3) (hbc : b ≠ c) (hec : e ≠ c) (heb : e ≠ b) :
    Calls Tryd.prog 40 #[.pointer (some ⟨e, 0, none⟩), .int .i64 0] w fun r w' => (∃ u, r = .returned u) ∧ VBlk w' e #[.int .i64 7, .slice (some ⟨b, 0, none⟩) 1 1, .slice none 0 pc, .int .i64 1] 47 ∧ VBlk w' b #[.slice (some ⟨c, 0, none⟩) 2 2] 25 ∧ VBlk w' c #[.int .i64 1, .int .i64 2] 3 ∧ (∀ B, B ≤ e → B ≤ c → Below B w w') ∧ (∀ (k : Nat) (vs : Array Value) (t : TypeId), k ≠ e → k ≠ c → VBlk w k vs t → VBlk w' k vs t) := by
  have e0 := he.c 0
  have e1 := he.c 1
  have e2 := he.c 2
  have e3 := he.c 3
  have b0 := hb.c 0
  have c0 := hc.c 0
  have c1 := hc.c 1
  have f3 := he.f 3
  have CV := Lib.hid (fun w => inverseZ 1 7 w (by omega) (by omega) (by omega) (by omega))
  rw [inv17] at CV
  go_enter Tryd.func40, Tryd.ntmps40
  go_upto_region 0 with fail
  first | go_region | fail "r0"
  go_upto_region 1 with fail
  first | go_region | fail "r1"
  have o1 := only_set1 w e 3 (.int .i64 1)
  have he2 : VBlk _ e #[.int .i64 7, .slice (some ⟨b, 0, none⟩) 1 1, .slice none 0 pc, .int .i64 1] 47 := he.set 3 (.int .i64 1)
  have hb2 := hb.only o1 (Ne.symm heb)
  have hc2 := hc.only o1 (Ne.symm hec)
  have HB := Lib.hid (fun B (h1 : B ≤ e) => o1.below h1)
  have HB := Lib.hid (fun B (h1 : B ≤ e) (_ : B ≤ c) => HB.out B h1)
  have HK := Lib.hid (fun (k : Nat) (vs : Array Value) (t : TypeId) (h1 : k ≠ e) (_ : k ≠ c) (h : VBlk w k vs t) => h.only o1 h1)
  clear e0 e1 e2 e3 b0 c0 c1 f3 o1 he hb hc
  generalize hVE : w.setCell ⟨e, 3, none⟩ (.int .i64 1) = V at *
  clear hVE
  have he := he2
  have hb := hb2
  have hc := hc2
  clear he2 hb2 hc2
  have e0 := he.c 0
  have c0 := hc.c 0
  have HS := Lib.hid (show ∀ wx, Only wx.heap.size V wx → wx.cell? ⟨e, 0, none⟩ = some (.int .i64 7) ∧ wx.cell? ⟨c, 0, none⟩ = some (.int .i64 1) from fun wx h => ⟨(World.cell?_of_block (w := V) (h.block e (by have := he.lt; have := h.size; omega))).trans e0, (World.cell?_of_block (w := V) (h.block c (by have := hc.lt; have := h.size; omega))).trans c0⟩)
  go_upto_region 2 with fail
  first | (go_region_held3 (fun wx => wx.cell? ⟨e, 0, none⟩ = some (.int .i64 7) ∧ wx.cell? ⟨c, 0, none⟩ = some (.int .i64 1))
    (first | exact HS.out _ (by repeat (first | exact Only.refl _ _ | refine only_drew ?_)))
    (first | (go_at_call 17; refine (CV.out _).mono ?_; rintro e w9 ⟨rfl, rfl⟩))) | fail "r2"
  clear HS
  clear e0 c0
  go_wp2
  refine wp_loop_rounds 3 ?_
  rw [rounds_succ]
  have e0 := he.c 0
  have c0 := hc.c 0
  have c1 := hc.c 1
  have f0 := hc.f 0
  have f1 := hc.f 1
  go_upto_region 6 with fail
  first | go_region | fail "r6"
  have o1 := only_set1 V c 0 (.int .i64 1)
  have he2 := he.only o1 hec
  have hb2 := hb.only o1 hbc
  have hc2 : VBlk _ c #[.int .i64 1, .int .i64 2] 3 := hc.set 0 (.int .i64 1)
  have HB2 := Lib.hid (fun B (h1 : B ≤ e) (h2 : B ≤ c) => Below.trans (HB.out B h1 h2) (o1.below h2))
  have HK2 := Lib.hid (fun (k : Nat) (vs : Array Value) (t : TypeId) (h1 : k ≠ e) (h2 : k ≠ c) (h : VBlk w k vs t) => (HK.out k vs t h1 h2 h).only o1 h2)
  clear e0 c0 c1 f0 f1 o1 he hb hc HB HK
  generalize hVE : V.setCell ⟨c, 0, none⟩ (.int .i64 1) = V2 at *
  clear hVE
  have he := he2
  have hb := hb2
  have hc := hc2
  have HB := HB2
  have HK := HK2
  clear he2 hb2 hc2 HB2 HK2
  go_wp2
  rw [rounds_succ]
  have e0 := he.c 0
  have c0 := hc.c 0
  have c1 := hc.c 1
  have f0 := hc.f 0
  have f1 := hc.f 1
  go_upto_region 6 with fail
  first | go_region | fail "r6"
  have o1 := only_set1 V2 c 1 (.int .i64 2)
  have he2 := he.only o1 hec
  have hb2 := hb.only o1 hbc
  have hc2 : VBlk _ c #[.int .i64 1, .int .i64 2] 3 := hc.set 1 (.int .i64 2)
  have HB2 := Lib.hid (fun B (h1 : B ≤ e) (h2 : B ≤ c) => Below.trans (HB.out B h1 h2) (o1.below h2))
  have HK2 := Lib.hid (fun (k : Nat) (vs : Array Value) (t : TypeId) (h1 : k ≠ e) (h2 : k ≠ c) (h : VBlk w k vs t) => (HK.out k vs t h1 h2 h).only o1 h2)
  clear e0 c0 c1 f0 f1 o1 he hb hc HB HK
  generalize hVE : V2.setCell ⟨c, 1, none⟩ (.int .i64 2) = V3 at *
  clear hVE
  have he := he2
  have hb := hb2
  have hc := hc2
  have HB := HB2
  have HK := HK2
  clear he2 hb2 hc2 HB2 HK2
  go_wp2
  rw [rounds_succ]
  go_wp2
  first | (refine bodyPost_ret (results_none rfl _ _ _) rfl ?_; exact ⟨⟨_, rfl⟩, he, hb, hc, fun B h1 h2 => (HB.out B h1 h2), HK.out⟩) | (refine ⟨rfl, _, results_none rfl _ _ _, ⟨_, rfl⟩, he, hb, hc, fun B h1 h2 => ?_, HK.out⟩; have := HB.out B h1 h2; exact ⟨this.os, this.tape, this.output, this.size, this.block⟩)
end Go.Proofs.YtlpclahlolhjfaaDoor
