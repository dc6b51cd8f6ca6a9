import Derived.Test.YthicfkeiggcjjaaGreatDoorEcDlU22
import Derived.Test.YthicfkeiggcjjaaGreatDoorEcDlU21
import Derived.BigQuiet
import Derived.Deep.QuietTactic
import Derived.Test.YthicfkeiggcjjaaGreatDoorEcDlU15
namespace Go.Proofs.YthicfkeiggcjjaaGreatDoor
open Go Go.RowKit

set_option maxRecDepth 100000 in
set_option maxHeartbeats 2000000 in
theorem findPivot_yes (e b c pc : Nat) (w : World) (he : VBlk w e #[.int .i64 7, .slice (some ⟨b, 0, none⟩) 1 1, .slice none 0 pc, .int .i64 1] 59) (hb : VBlk w b #[.slice (some ⟨c, 0, none⟩) 2 2] 23) (hc : VBlk w c #[.int .i64 1, .int .i64 2] 3) :
    Calls Tryz.prog 60 #[.pointer (some ⟨e, 0, none⟩), .int .i64 0] w fun r w' => r = .returned (.bool true) ∧ w = w' := by
  have e0 := he.c 0
  have e1 := he.c 1
  have e2 := he.c 2
  have e3 := he.c 3
  have b0 := hb.c 0
  have c0 := hc.c 0
  have c1 := hc.c 1
  clear he hb hc
  go_enter Tryz.func60, Tryz.ntmps60
  go_wp2
  refine wp_loop_rounds 1 ?_
  rw [rounds_succ]
  go_wp2
  go_ret
  exact ⟨rfl, rfl⟩

set_option maxRecDepth 100000 in
set_option maxHeartbeats 2000000 in
theorem findPivot_no (e b c q pc : Nat) (w : World) (he : VBlk w e #[.int .i64 7, .slice (some ⟨b, 0, none⟩) 1 1, .slice (some ⟨q, 0, none⟩) 1 pc, .int .i64 1] 59) (hb : VBlk w b #[.slice (some ⟨c, 0, none⟩) 2 2] 23) (hc : VBlk w c #[.int .i64 1, .int .i64 2] 3) :
    Calls Tryz.prog 60 #[.pointer (some ⟨e, 0, none⟩), .int .i64 1] w fun r w' => r = .returned (.bool false) ∧ w = w' := by
  have e0 := he.c 0
  have e1 := he.c 1
  have e2 := he.c 2
  have e3 := he.c 3
  have b0 := hb.c 0
  have c0 := hc.c 0
  have c1 := hc.c 1
  clear he hb hc
  go_enter Tryz.func60, Tryz.ntmps60
  go_wp2
  refine wp_loop_rounds 1 ?_
  rw [rounds_succ]
  go_wp2
  go_ret
  exact ⟨rfl, rfl⟩

set_option maxRecDepth 100000 in
set_option maxHeartbeats 2000000 in
theorem clearColumn_12 (e b c pc : Nat) (w : World) (he : VBlk w e #[.int .i64 7, .slice (some ⟨b, 0, none⟩) 1 1, .slice none 0 pc, .int .i64 1] 59) (hb : VBlk w b #[.slice (some ⟨c, 0, none⟩) 2 2] 23) (hc : VBlk w c #[.int .i64 1, .int .i64 2] 3) :
    Calls Tryz.prog 62 #[.pointer (some ⟨e, 0, none⟩), .int .i64 0] w fun r w' => (∃ u, r = .returned u) ∧ w = w' := by
  have e0 := he.c 0
  have e1 := he.c 1
  have e2 := he.c 2
  have e3 := he.c 3
  have b0 := hb.c 0
  have c0 := hc.c 0
  have c1 := hc.c 1
  clear he hb hc
  go_enter Tryz.func62, Tryz.ntmps62
  go_wp2
  refine wp_loop_rounds 2 ?_
  rw [rounds_succ]
  go_wp2
  rw [rounds_succ]
  go_wp2
  first | (refine bodyPost_ret (results_none rfl _ _ _) rfl ?_; exact ⟨⟨_, rfl⟩, rfl⟩) | exact ⟨rfl, _, results_none rfl _ _ _, ⟨_, rfl⟩, rfl⟩

set_option maxRecDepth 100000 in
set_option maxHeartbeats 2000000 in
theorem firstFree_12 (e b c q pc : Nat) (w : World) (he : VBlk w e #[.int .i64 7, .slice (some ⟨b, 0, none⟩) 1 1, .slice (some ⟨q, 0, none⟩) 1 pc, .int .i64 1] 59) (hb : VBlk w b #[.slice (some ⟨c, 0, none⟩) 2 2] 23) (hc : VBlk w c #[.int .i64 1, .int .i64 2] 3) (hq : w.cell? ⟨q, 0, none⟩ = some (.int .i64 0)) :
    Calls Tryz.prog 37 #[.pointer (some ⟨e, 0, none⟩)] w fun r w' => r = .returned (.int .i64 1) ∧ w = w' := by
  have e0 := he.c 0
  have e1 := he.c 1
  have e2 := he.c 2
  have e3 := he.c 3
  have b0 := hb.c 0
  have c0 := hc.c 0
  have c1 := hc.c 1
  clear he hb hc
  go_enter Tryz.func37, Tryz.ntmps37
  go_wp2
  refine wp_loop_rounds 2 ?_
  rw [rounds_succ]
  go_wp2
  rw [rounds_succ]
  go_wp2
  go_ret
  exact ⟨rfl, rfl⟩

theorem inv17 : invZ 1 7 = 1 := by decide +kernel

set_option maxRecDepth 100000 in
set_option maxHeartbeats 2000000 in
theorem scalePivot_12 (e b c pc : Nat) (w : World) (he : VBlk w e #[.int .i64 7, .slice (some ⟨b, 0, none⟩) 1 1, .slice none 0 pc, .int .i64 1] 59) (hb : VBlk w b #[.slice (some ⟨c, 0, none⟩) 2 2] 23) (hc : VBlk w c #[.int .i64 1, .int .i64 2] 3) (hbc : b ≠ c) (hec : e ≠ c) (heb : e ≠ b) :
    Calls Tryz.prog 61 #[.pointer (some ⟨e, 0, none⟩), .int .i64 0] w fun r w' => (∃ u, r = .returned u) ∧ VBlk w' e #[.int .i64 7, .slice (some ⟨b, 0, none⟩) 1 1, .slice none 0 pc, .int .i64 1] 59 ∧ VBlk w' b #[.slice (some ⟨c, 0, none⟩) 2 2] 23 ∧ VBlk w' c #[.int .i64 1, .int .i64 2] 3 ∧ (∀ B, B ≤ e → B ≤ c → Below B w w') ∧ (∀ (k : Nat) (vs : Array Value) (t : TypeId), k ≠ e → k ≠ c → VBlk w k vs t → VBlk w' k vs t) := by
  have e0 := he.c 0
  have e1 := he.c 1
  have e2 := he.c 2
  have e3 := he.c 3
  have b0 := hb.c 0
  have c0 := hc.c 0
  have c1 := hc.c 1
  have f3 := he.f 3
  have CV := Lib.hid (fun w => inverseZ 1 7 w (by omega) (by omega) (by omega) (by omega))
  rw [inv17] at CV
  go_enter Tryz.func61, Tryz.ntmps61
  go_upto_region 0 with fail
  first | go_region | fail "r0"
  go_upto_region 1 with fail
  first | go_region | fail "r1"
  have o1 := only_set1 w e 3 (.int .i64 1)
  have he2 : VBlk _ e #[.int .i64 7, .slice (some ⟨b, 0, none⟩) 1 1, .slice none 0 pc, .int .i64 1] 59 := he.set 3 (.int .i64 1)
  have hb2 := hb.only o1 (Ne.symm heb)
  have hc2 := hc.only o1 (Ne.symm hec)
  have HB := Lib.hid (fun B (h1 : B ≤ e) => o1.below h1)
  have HB := Lib.hid (fun B (h1 : B ≤ e) (_ : B ≤ c) => HB.out B h1)
  have HK := Lib.hid (fun (k : Nat) (vs : Array Value) (t : TypeId) (h1 : k ≠ e) (_ : k ≠ c) (h : VBlk w k vs t) => h.only o1 h1)
  clear e0 e1 e2 e3 b0 c0 c1 f3 o1 he hb hc
  generalize hVE : w.setCell ⟨e, 3, none⟩ (.int .i64 1) = V at *
  clear hVE
  have he := he2
  have hb := hb2
  have hc := hc2
  clear he2 hb2 hc2
  have e0 := he.c 0
  have c0 := hc.c 0
  have HS := Lib.hid (show ∀ wx, Only wx.heap.size V wx → wx.cell? ⟨e, 0, none⟩ = some (.int .i64 7) ∧ wx.cell? ⟨c, 0, none⟩ = some (.int .i64 1) from fun wx h => ⟨(World.cell?_of_block (w := V) (h.block e (by have := he.lt; have := h.size; omega))).trans e0, (World.cell?_of_block (w := V) (h.block c (by have := hc.lt; have := h.size; omega))).trans c0⟩)
  go_upto_region 2 with fail
  first | (go_region_held3 (fun wx => wx.cell? ⟨e, 0, none⟩ = some (.int .i64 7) ∧ wx.cell? ⟨c, 0, none⟩ = some (.int .i64 1))
    (first | exact HS.out _ (by repeat (first | exact Only.refl _ _ | refine only_drew ?_)))
    (first | (go_at_call 43; refine (CV.out _).mono ?_; rintro e w9 ⟨rfl, rfl⟩))) | fail "r2"
  clear HS
  clear e0 c0
  go_wp2
  refine wp_loop_rounds 3 ?_
  rw [rounds_succ]
  have e0 := he.c 0
  have c0 := hc.c 0
  have c1 := hc.c 1
  have f0 := hc.f 0
  have f1 := hc.f 1
  go_upto_region 6 with fail
  first | go_region | fail "r6"
  have o1 := only_set1 V c 0 (.int .i64 1)
  have he2 := he.only o1 hec
  have hb2 := hb.only o1 hbc
  have hc2 : VBlk _ c #[.int .i64 1, .int .i64 2] 3 := hc.set 0 (.int .i64 1)
  have HB2 := Lib.hid (fun B (h1 : B ≤ e) (h2 : B ≤ c) => Below.trans (HB.out B h1 h2) (o1.below h2))
  have HK2 := Lib.hid (fun (k : Nat) (vs : Array Value) (t : TypeId) (h1 : k ≠ e) (h2 : k ≠ c) (h : VBlk w k vs t) => (HK.out k vs t h1 h2 h).only o1 h2)
  clear e0 c0 c1 f0 f1 o1 he hb hc HB HK
  generalize hVE : V.setCell ⟨c, 0, none⟩ (.int .i64 1) = V2 at *
  clear hVE
  have he := he2
  have hb := hb2
  have hc := hc2
  have HB := HB2
  have HK := HK2
  clear he2 hb2 hc2 HB2 HK2
  go_wp2
  rw [rounds_succ]
  have e0 := he.c 0
  have c0 := hc.c 0
  have c1 := hc.c 1
  have f0 := hc.f 0
  have f1 := hc.f 1
  go_upto_region 6 with fail
  first | go_region | fail "r6"
  have o1 := only_set1 V2 c 1 (.int .i64 2)
  have he2 := he.only o1 hec
  have hb2 := hb.only o1 hbc
  have hc2 : VBlk _ c #[.int .i64 1, .int .i64 2] 3 := hc.set 1 (.int .i64 2)
  have HB2 := Lib.hid (fun B (h1 : B ≤ e) (h2 : B ≤ c) => Below.trans (HB.out B h1 h2) (o1.below h2))
  have HK2 := Lib.hid (fun (k : Nat) (vs : Array Value) (t : TypeId) (h1 : k ≠ e) (h2 : k ≠ c) (h : VBlk w k vs t) => (HK.out k vs t h1 h2 h).only o1 h2)
  clear e0 c0 c1 f0 f1 o1 he hb hc HB HK
  generalize hVE : V2.setCell ⟨c, 1, none⟩ (.int .i64 2) = V3 at *
  clear hVE
  have he := he2
  have hb := hb2
  have hc := hc2
  have HB := HB2
  have HK := HK2
  clear he2 hb2 hc2 HB2 HK2
  go_wp2
  rw [rounds_succ]
  go_wp2
  first | (refine bodyPost_ret (results_none rfl _ _ _) rfl ?_; exact ⟨⟨_, rfl⟩, he, hb, hc, fun B h1 h2 => (HB.out B h1 h2), HK.out⟩) | (refine ⟨rfl, _, results_none rfl _ _ _, ⟨_, rfl⟩, he, hb, hc, fun B h1 h2 => ?_, HK.out⟩; have := HB.out B h1 h2; exact ⟨this.os, this.tape, this.output, this.size, this.block⟩)
end Go.Proofs.YthicfkeiggcjjaaGreatDoor

namespace Go.Proofs.YthicfkeiggcjjaaGreatDoor
open Go Go.RowKit

set_option maxRecDepth 100000 in
set_option maxHeartbeats 4000000 in
theorem reduce_12 (b c : Nat) (w : World) (hb : VBlk w b #[.slice (some ⟨c, 0, none⟩) 2 2] 23) (hc : VBlk w c #[.int .i64 1, .int .i64 2] 3) (hbc : b ≠ c) :
    Calls Tryz.prog 33 #[.slice (some ⟨b, 0, none⟩) 1 1, .int .i64 2, .int .i64 7] w fun r w' => ∃ q pc, r = .returned (.agg #[.int .i64 7, .slice (some ⟨b, 0, none⟩) 1 1, .slice (some ⟨q, 0, none⟩) 1 pc, .int .i64 1]) ∧ w'.cell? ⟨q, 0, none⟩ = some (.int .i64 0) ∧
      VBlk w' b #[.slice (some ⟨c, 0, none⟩) 2 2] 23 ∧ VBlk w' c #[.int .i64 1, .int .i64 2] 3 ∧ (∀ B, B ≤ c → B ≤ w.heap.size → Below B w w') := by
  go_enter Tryz.func33, Tryz.ntmps33
  go_upto_region 2 with fail
  have hbl := hb.lt
  have hcl := hc.lt
  obtain ⟨f, hf⟩ : ∃ f, w.heap.size = f := ⟨_, rfl⟩
  obtain ⟨e, he⟩ : ∃ e, f + 1 = e := ⟨_, rfl⟩
  have n1 := VBlk.new w #[.int .i64 0, .slice none 0 0, .slice none 0 0, .int .i64 0] 59
  have n2 : VBlk ((w.alloc (.cells #[.int .i64 0, .slice none 0 0, .slice none 0 0, .int .i64 0] 59)).alloc (.cells #[.int .i64 7, .slice (some ⟨b, 0, none⟩) 1 1, .slice none 0 0, .int .i64 1] 59)) (w.heap.size + 1) #[.int .i64 7, .slice (some ⟨b, 0, none⟩) 1 1, .slice none 0 0, .int .i64 1] 59 := by
    have := VBlk.new (w.alloc (.cells #[.int .i64 0, .slice none 0 0, .slice none 0 0, .int .i64 0] 59)) #[.int .i64 7, .slice (some ⟨b, 0, none⟩) 1 1, .slice none 0 0, .int .i64 1] 59
    simpa using this
  have n1 := n1.below ((Below.refl _ _).alloc (Nat.le_refl _) (.cells #[.int .i64 7, .slice (some ⟨b, 0, none⟩) 1 1, .slice none 0 0, .int .i64 1] 59))
  have hE : Ext w ((w.alloc (.cells #[.int .i64 0, .slice none 0 0, .slice none 0 0, .int .i64 0] 59)).alloc (.cells #[.int .i64 7, .slice (some ⟨b, 0, none⟩) 1 1, .slice none 0 0, .int .i64 1] 59)) := ((Below.refl _ w).alloc (Nat.le_refl _) _).alloc (by simp) _
  have hb := hb.below hE
  have hc := hc.below hE
  rw [hf] at n1 n2
  rw [he] at n2
  have HB := Lib.hid (fun B (_ : B ≤ c) (h2 : B ≤ f) => hE.mono (by rw [hf]; exact h2))
  simp only [hf, he]
  generalize hVE : ((w.alloc (.cells #[.int .i64 0, .slice none 0 0, .slice none 0 0, .int .i64 0] 59)).alloc (.cells #[.int .i64 7, .slice (some ⟨b, 0, none⟩) 1 1, .slice none 0 0, .int .i64 1] 59)) = V at *
  clear hVE hE
  have hbe : b ≠ e := by omega
  have hce : c ≠ e := by omega
  have hel := n2.lt
  have hfl := n1.lt
  have hfe : f ≠ e := by omega
  have HCF := Lib.hid (show c < f ∧ f < e ∧ b < f by omega)
  have HF0 := Lib.hid hf
  clear hbl hcl he hf
  go_wp2
  refine wp_loop_rounds 3 ?_
  rw [rounds_succ]
  go_wp2_with fail
  refine (findPivot_yes e b c 0 V n2 hb hc).mono ?_
  rintro r w1 ⟨rfl, rfl⟩
  go_wp2_with fail
  refine (scalePivot_12 e b c 0 V n2 hb hc hbc (Ne.symm hce) (Ne.symm hbe)).mono ?_
  rintro r w1 ⟨⟨u1, rfl⟩, h2, hb2, hc2, hB2, hK2⟩
  have n1 := hK2 f _ _ hfe (by have := HCF.out; omega) n1
  have HB := Lib.hid (fun B (h1 : B ≤ c) (h2 : B ≤ f) => (HB.out B h1 h2).trans (hB2 B (by have := HCF.out; omega) h1))
  clear n2 hb hc hB2 hK2 hel hfl
  go_wp2_with fail
  refine (clearColumn_12 e b c 0 w1 h2 hb2 hc2).mono ?_
  rintro r w2 ⟨⟨u2, rfl⟩, rfl⟩
  have e2 := h2.c 2
  have f2 := h2.f 2
  have hown := OI.nil w1 w1.heap.size
  go_wp2_with (first | (at_builtin; refine wpList_append_int _ rfl (.tmp 23) (.tmp 25) rfl w1.heap.size _ [] 0 rfl rfl hown (Nat.le_refl _) (by simp) ?_; intro v' w3 hown3 hB3; obtain ⟨q, pc, rfl, hq1, hq2, hq3, hq4⟩ := hown3.form (by simp); have h3 := h2.below hB3; have e3' := h3.c 2; have f3' := h3.f 2; have q0 := hq4 0 (by simp)) | go_in)
  have o1 := only_set1 w3 e 2 (.slice (some ⟨q, 0, none⟩) 1 pc)
  have h4 : VBlk _ e #[.int .i64 7, .slice (some ⟨b, 0, none⟩) 1 1, .slice (some ⟨q, 0, none⟩) 1 pc, .int .i64 1] 59 := h3.set 2 (.slice (some ⟨q, 0, none⟩) 1 pc)
  have hb4 := (hb2.below hB3).only o1 hbe
  have hc4 := (hc2.below hB3).only o1 hce
  have n4 := (n1.below hB3).only o1 hfe
  have hqe : q ≠ e := by have := h2.lt; omega
  have hqf : q ≠ f := by have := n1.lt; omega
  have q4 := (World.cell?_of_block (w := w3) (a := ⟨q, 0, none⟩) (o1.block q hqe)).trans q0
  have HB4 := Lib.hid (fun B (h1 : B ≤ c) (h2' : B ≤ f) => Below.trans ((HB.out B h1 h2').trans (hB3.mono (by have := n1.lt; omega))) (o1.below (show B ≤ e by have := HCF.out; omega)))
  clear o1 h3 h2 hb2 hc2 n1 q0 hq1 hq2 hq3 hq4 hown3 hown e2 f2 e3' f3' HB hqe hB3
  generalize hVE : w3.setCell ⟨e, 2, none⟩ (.slice (some ⟨q, 0, none⟩) 1 pc) = W4 at *
  clear hVE
  rw [rounds_succ]
  go_wp2_with fail
  refine (findPivot_no e b c q pc W4 h4 hb4 hc4).mono ?_
  rintro r w5 ⟨rfl, rfl⟩
  go_wp2
  rw [rounds_succ]
  have g0 := h4.c 0
  have g1 := h4.c 1
  have g2 := h4.c 2
  have g3 := h4.c 3
  have x0 := n4.c 0
  have x1 := n4.c 1
  have x2 := n4.c 2
  have x3 := n4.c 3
  have f0 := n4.f 0
  have f1 := n4.f 1
  have f2 := n4.f 2
  have f3 := n4.f 3
  have m4 := (((n4.set 0 (.int .i64 7)).set 1 (.slice (some ⟨b, 0, none⟩) 1 1)).set 2 (.slice (some ⟨q, 0, none⟩) 1 pc)).set 3 (.int .i64 1)
  have y0 := m4.c 0
  have y1 := m4.c 1
  have y2 := m4.c 2
  have y3 := m4.c 3
  have o4 : Only f W4 ((((W4.setCell ⟨f, 0, none⟩ (.int .i64 7)).setCell ⟨f, 1, none⟩ (.slice (some ⟨b, 0, none⟩) 1 1)).setCell ⟨f, 2, none⟩ (.slice (some ⟨q, 0, none⟩) 1 pc)).setCell ⟨f, 3, none⟩ (.int .i64 1)) := ((((Only.refl f W4).setCell _ _).setCell _ _).setCell _ _).setCell _ _
  have HF := Lib.hid (And.intro ((World.cell?_of_block (w := W4) (a := ⟨q, 0, none⟩) (o4.block q hqf)).trans q4) (And.intro (hb4.only o4 (by have := HCF.out; omega)) (And.intro (hc4.only o4 (by have := HCF.out; omega)) (fun B (h1 : B ≤ c) (h2 : B ≤ w.heap.size) => Below.trans (HB4.out B h1 (by rw [HF0.out] at h2; exact h2)) (o4.below (show B ≤ f by rw [HF0.out] at h2; exact h2))))))
  clear m4 o4 hb4 hc4 n4 h4 q4 HB4
  go_wp2
  refine bodyPost_ret (v := .agg #[.int .i64 7, .slice (some ⟨b, 0, none⟩) 1 1, .slice (some ⟨q, 0, none⟩) 1 pc, .int .i64 1]) (by simp [results, Tryz.results33, go_sem, y0, y1, y2, y3]) rfl ⟨q, pc, rfl, HF.out.1, HF.out.2.1, HF.out.2.2.1, HF.out.2.2.2⟩

theorem residue_neg2 (w : World) : Calls Tryz.prog 38 #[.int .i64 (-2), .int .i64 7] w fun e w' => e = .returned (.int .i64 5) ∧ w = w' := residue_any (-2) 7 w (by omega) (by omega)

set_option maxRecDepth 100000 in
set_option maxHeartbeats 4000000 in
theorem kernel_12 (a g : Nat) (w : World) (h0 : w.cell? ⟨a, 0, none⟩ = some (.slice (some ⟨g, 0, none⟩) 2 2)) (h1 : w.cell? ⟨g, 0, none⟩ = some (.int .i64 1)) (h2 : w.cell? ⟨g, 1, none⟩ = some (.int .i64 2)) (hT : Table64 w) :
    Calls Tryz.prog 13 #[.slice (some ⟨a, 0, none⟩) 1 1, .int .i64 7] w fun r w' => ∃ v, r = .returned (.tuple #[.slice (some ⟨v, 0, none⟩) 2 2, .int .i64 0]) ∧ VBlk w' v #[.int .i64 5, .int .i64 1] 3 ∧ Ext w w' := by
  have hm2 := make_two
  go_enter Tryz.func13, Tryz.ntmps13
  go_wp2_with fail
  refine (residues_12 a g w h0 h1 h2 hT).mono ?_
  rintro r w1 ⟨b, c, rfl, hb, hc, hB, hC, hbc, hE⟩
  have k0 := (hE.cell (lt_of_cell h0)).trans h0
  clear h0 h1 h2 hT
  go_wp2_with fail
  refine (width_12 a g w1 k0).mono ?_
  rintro r w2 ⟨rfl, rfl⟩
  clear k0
  go_wp2_with fail
  refine (reduce_12 b c w1 hb hc hbc).mono ?_
  rintro r w3 ⟨q, pc, rfl, hq, hb3, hc3, hB3⟩
  have HE3 := Lib.hid (show Ext w w3 from Below.trans hE (hB3 w.heap.size hC (Below.size hE)))
  clear hb hc hB3 hE
  go_upto_region 6 with fail
  obtain ⟨e, he⟩ : ∃ e, w3.heap.size = e := ⟨_, rfl⟩
  have n1 := VBlk.new w3 #[.int .i64 7, .slice (some ⟨b, 0, none⟩) 1 1, .slice (some ⟨q, 0, none⟩) 1 pc, .int .i64 1] 59
  have hA : Ext w3 (w3.alloc (.cells #[.int .i64 7, .slice (some ⟨b, 0, none⟩) 1 1, .slice (some ⟨q, 0, none⟩) 1 pc, .int .i64 1] 59)) := (Below.refl _ w3).alloc (Nat.le_refl _) _
  have hb := hb3.below hA
  have hc := hc3.below hA
  have hq := (hA.cell (lt_of_cell hq)).trans hq
  have HE := Lib.hid (HE3.out.trans hA)
  rw [he] at n1
  simp only [he]
  generalize hVE : w3.alloc (.cells #[.int .i64 7, .slice (some ⟨b, 0, none⟩) 1 1, .slice (some ⟨q, 0, none⟩) 1 pc, .int .i64 1] 59) = V at *
  clear hVE hA hb3 hc3 HE3 he
  go_wp2_with fail
  refine (firstFree_12 e b c q pc V n1 hb hc hq).mono ?_
  rintro r w4 ⟨rfl, rfl⟩
  go_upto_region 11 with fail
  obtain ⟨v, hv⟩ : ∃ v, V.heap.size = v := ⟨_, rfl⟩
  have n2 := VBlk.new V #[.int .i64 0, .int .i64 1] 3
  have hA : Ext V (V.alloc (.cells #[.int .i64 0, .int .i64 1] 3)) := (Below.refl _ V).alloc (Nat.le_refl _) _
  have hn := n1.below hA
  have hb2 := hb.below hA
  have hc2 := hc.below hA
  have HE2 := Lib.hid (HE.out.trans hA)
  have hwv : w.heap.size ≤ v := by rw [← hv]; exact Below.size HE.out
  rw [hv] at n2
  simp only [hv]
  generalize hVE : V.alloc (.cells #[.int .i64 0, .int .i64 1] 3) = V2 at *
  clear hVE hA hb hc hq HE n1 hv
  have e1 := hn.c 1
  have b0 := hb2.c 0
  have c1 := hc2.c 1
  have v0 := n2.c 0
  have f0 := n2.f 0
  have o1 := only_set1 V2 v 0 (.int .i64 5)
  have HF := Lib.hid (And.intro (show VBlk _ v #[.int .i64 5, .int .i64 1] 3 from n2.set 0 (.int .i64 5)) (show Ext w _ from Below.trans HE2.out (o1.below hwv)))
  clear o1 n2 hn hb2 hc2
  go_wp2
  refine wp_loop_rounds 2 ?_
  rw [rounds_succ]
  go_wp2_with fail
  refine (residue_neg2 V2).mono ?_
  rintro r w5 ⟨rfl, rfl⟩
  go_wp2
  rw [rounds_succ]
  go_wp2
  go_ret2
  exact ⟨v, rfl, HF.out.1, HF.out.2⟩
end Go.Proofs.YthicfkeiggcjjaaGreatDoor
