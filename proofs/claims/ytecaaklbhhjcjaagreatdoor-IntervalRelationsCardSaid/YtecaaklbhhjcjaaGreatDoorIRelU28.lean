import Derived.Test.YtecaaklbhhjcjaaGreatDoorIRelU27
namespace Go.Proofs.YtecaaklbhhjcjaaGreatDoor
open Go.RowKit

def wholeV : Value := .agg #[.int .u64 18442240474082181120, .int .u64 9218868437227405312]

theorem isFinite_at (f : Nat) (hf : f < 18446744073709551616) (b : Bool) (hb : finB f = b) (w : World) :
    Calls Tryz.prog 74 #[.int .u64 (f : Int)] w fun e w' => e = .returned (.bool b) ∧ w = w' := by
  rw [← hb]; exact isFinite_any f hf w

set_option maxRecDepth 100000 in
set_option maxHeartbeats 1000000 in
theorem point_any (f : Nat) (hf : f < 18446744073709551616) (v : Value) (hv : (if finB f then .agg #[.int .u64 ((plainF f : Nat) : Int), .int .u64 ((plainF f : Nat) : Int)] else wholeV) = v) (w : World) :
    Calls Tryz.prog 17 #[.int .u64 (f : Int)] w fun e w' => e = .returned v ∧ Ext w w' := by
  cases hb : finB f with
  | false =>
    rw [hb, if_neg (by simp)] at hv
    subst hv
    have C := Lib.hid (isFinite_at f hf false hb)
    unfold wholeV
    clear hb hf
    go_enter Tryz.func17, Tryz.ntmps17
    go_wp2_with fail
    obtain ⟨W, hW, hB, hbx, hsz⟩ := ibox_new w 0 0
    rw [← hW]
    clear hW
    generalize hBe : w.heap.size = B at *
    have HBe := Lib.hid hBe
    have hB : Below B w W := by rw [← hBe]; exact hB
    clear hBe
    refine (C.out _).mono ?_
    rintro r w1 ⟨rfl, rfl⟩
    go_wp2_with fail
    refine (whole_any _).mono ?_
    rintro r w2 ⟨rfl, hE⟩
    have bx := hbx.below hE
    have hB2 := hB.trans (Below.mono hE (by omega))
    clear hbx hB hE
    have q0 := bx.c0
    have q1 := bx.c1
    have q2 := bx.f 0
    have q3 := bx.f 1
    have hst := bx.stored 18442240474082181120 9218868437227405312
    have z0 := hst.c0
    have z1 := hst.c1
    have HB := Lib.hid (hB2.trans ((only_iset2 w2 B (.int .u64 18442240474082181120) (.int .u64 9218868437227405312)).below (Nat.le_refl B)))
    clear hst hB2
    go_wp2
    refine bodyPost_ret (v := .agg #[.int .u64 18442240474082181120, .int .u64 9218868437227405312]) (by simp [results, Tryz.results17, go_sem, z0, z1]) rfl ⟨rfl, ?_⟩
    show Below _ _ _
    rw [HBe.out]
    exact HB.out
  | true =>
    rw [hb, if_pos rfl] at hv
    subst hv
    have C := Lib.hid (isFinite_at f hf true hb)
    have CB := Lib.hid (between_any f f)
    obtain ⟨x, hx⟩ : ∃ x : Int, ((plainF f : Nat) : Int) = x := ⟨_, rfl⟩
    rw [hx] at CB ⊢
    clear hx hb hf
    go_enter Tryz.func17, Tryz.ntmps17
    go_wp2_with fail
    obtain ⟨W, hW, hB, hbx, hsz⟩ := ibox_new w 0 0
    rw [← hW]
    clear hW
    generalize hBe : w.heap.size = B at *
    have HBe := Lib.hid hBe
    have hB : Below B w W := by rw [← hBe]; exact hB
    clear hBe
    refine (C.out _).mono ?_
    rintro r w1 ⟨rfl, rfl⟩
    go_wp2_with fail
    refine (CB.out _).mono ?_
    rintro r w2 ⟨rfl, hE⟩
    have bx := hbx.below hE
    have hB2 := hB.trans (Below.mono hE (by omega))
    clear hbx hB hE
    have q0 := bx.c0
    have q1 := bx.c1
    have q2 := bx.f 0
    have q3 := bx.f 1
    have hst := bx.stored x x
    have z0 := hst.c0
    have z1 := hst.c1
    have HB := Lib.hid (hB2.trans ((only_iset2 w2 B (.int .u64 x) (.int .u64 x)).below (Nat.le_refl B)))
    clear hst hB2
    go_wp2
    refine bodyPost_ret (v := .agg #[.int .u64 x, .int .u64 x]) (by simp [results, Tryz.results17, go_sem, z0, z1]) rfl ⟨rfl, ?_⟩
    show Below _ _ _
    rw [HBe.out]
    exact HB.out

/-- is every element of one interval one of the other? -/
def subF (a b c d : Nat) : Bool := validF a b && validF c d && !lessF a c && !lessF d b

theorem ivalid_at {aI bI : Int} (lo hi : Nat) (hl : lo < 18446744073709551616) (hh : hi < 18446744073709551616) (hA : (lo : Int) = aI) (hB : (hi : Int) = bI) (b : Bool) (hb : validF lo hi = b) (w : World) :
    Calls Tryz.prog 15 #[.agg #[.int .u64 aI, .int .u64 bI]] w fun e w' => e = .returned (.bool b) ∧ Ext w w' := by
  rw [← hA, ← hB]; exact ivalid_any lo hi hl hh b hb w
theorem isLess_at {aI bI : Int} (a b : Nat) (ha : a < 18446744073709551616) (hb : b < 18446744073709551616) (hA : (a : Int) = aI) (hB : (b : Int) = bI) (r : Bool) (hr : lessF a b = r) (w : World) :
    Calls Tryz.prog 94 #[.int .u64 aI, .int .u64 bI] w fun e w' => e = .returned (.bool r) ∧ Ext w w' := by
  rw [← hA, ← hB, ← hr]; exact isLess_any a b ha hb w

set_option maxRecDepth 100000 in
set_option maxHeartbeats 4000000 in
/-- where it holds -/
theorem subset_yes (a b c d : Nat) (ha : a < 18446744073709551616) (hb : b < 18446744073709551616) (hc : c < 18446744073709551616) (hd : d < 18446744073709551616) (h : subF a b c d = true) (w : World) :
    Calls Tryz.prog 41 #[.agg #[.int .u64 (a : Int), .int .u64 (b : Int)], .agg #[.int .u64 (c : Int), .int .u64 (d : Int)]] w fun e w' => e = .returned (.bool true) ∧ Ext w w' := by
  unfold subF at h
  simp only [Bool.and_eq_true, Bool.not_eq_true'] at h
  obtain ⟨⟨⟨h1, h2⟩, h3⟩, h4⟩ := h
  have C1 := Lib.hid (ivalid_at a b ha hb rfl rfl true h1)
  have C2 := Lib.hid (ivalid_at c d hc hd rfl rfl true h2)
  have C3 := Lib.hid (isLess_at a c ha hc rfl rfl false h3)
  have C4 := Lib.hid (isLess_at d b hd hb rfl rfl false h4)
  clear h1 h2 h3 h4 ha hb hc hd
  go_enter Tryz.func41, Tryz.ntmps41
  go_wp2_with fail
  obtain ⟨W, hW, hB, hx, hy, hsz⟩ := ibox_two w a b c d
  rw [← hW]
  clear hW
  have HB := Lib.hid hB
  generalize w.heap.size = B at hx hy ⊢
  clear hB hsz
  have c0 := hx.c0
  have c1 := hx.c1
  have c2 := hy.c0
  have c3 := hy.c1
  go_wp2_with fail
  refine (C1.out _).mono ?_
  rintro r w1 ⟨rfl, hE⟩
  have hx := hx.below hE
  have hy := hy.below hE
  have HB := Lib.hid (HB.out.trans hE)
  clear c0 c1 c2 c3 hE
  have c0 := hx.c0
  have c1 := hx.c1
  have c2 := hy.c0
  have c3 := hy.c1
  go_wp2_with fail
  refine (C2.out _).mono ?_
  rintro r w2 ⟨rfl, hE⟩
  have hx := hx.below hE
  have hy := hy.below hE
  have HB := Lib.hid (HB.out.trans hE)
  clear c0 c1 c2 c3 hE
  have c0 := hx.c0
  have c1 := hx.c1
  have c2 := hy.c0
  have c3 := hy.c1
  go_wp2_with fail
  refine (C3.out _).mono ?_
  rintro r w3 ⟨rfl, hE⟩
  have hx := hx.below hE
  have hy := hy.below hE
  have HB := Lib.hid (HB.out.trans hE)
  clear c0 c1 c2 c3 hE
  have c0 := hx.c0
  have c1 := hx.c1
  have c2 := hy.c0
  have c3 := hy.c1
  go_wp2_with fail
  refine (C4.out _).mono ?_
  rintro r w4 ⟨rfl, hE⟩
  have hx := hx.below hE
  have hy := hy.below hE
  have HB := Lib.hid (HB.out.trans hE)
  clear c0 c1 c2 c3 hE
  have c0 := hx.c0
  have c1 := hx.c1
  have c2 := hy.c0
  have c3 := hy.c1
  go_wp2
  go_ret
  exact ⟨rfl, HB.out⟩

set_option maxRecDepth 100000 in
set_option maxHeartbeats 8000000 in
/-- the sum of two intervals -/
theorem iadd_yes (a b c d : Nat) (ha : a < 18446744073709551616) (hb : b < 18446744073709551616) (hc : c < 18446744073709551616) (hd : d < 18446744073709551616) (h1 : validF a b = true) (h2 : validF c d = true) (w : World) :
    Calls Tryz.prog 21 #[.agg #[.int .u64 (a : Int), .int .u64 (b : Int)], .agg #[.int .u64 (c : Int), .int .u64 (d : Int)]] w fun e w' => e = .returned (.agg #[.int .u64 ((plainF (faddF a c 1) : Nat) : Int), .int .u64 ((plainF (faddF b d 2) : Nat) : Int)]) ∧ Ext w w' := by
  have C1 := Lib.hid (ivalid_at a b ha hb rfl rfl true h1)
  have C2 := Lib.hid (ivalid_at c d hc hd rfl rfl true h2)
  have C3 := Lib.hid (fadd_any a c 1 ha hc)
  have C4 := Lib.hid (fadd_any b d 2 hb hd)
  have C5 := Lib.hid (between_any (faddF a c 1) (faddF b d 2))
  obtain ⟨x, hx⟩ : ∃ x : Int, ((plainF (faddF a c 1) : Nat) : Int) = x := ⟨_, rfl⟩
  obtain ⟨y, hy⟩ : ∃ y : Int, ((plainF (faddF b d 2) : Nat) : Int) = y := ⟨_, rfl⟩
  rw [hx, hy] at C5 ⊢
  clear hx hy h1 h2 ha hb hc hd
  generalize faddF a c 1 = R1 at *
  generalize faddF b d 2 = R2 at *
  go_enter Tryz.func21, Tryz.ntmps21
  go_wp2_with fail
  obtain ⟨W, hW, hB, hx, hy, hbx, hsz⟩ := ibox_three w a b c d 0 0
  rw [← hW]
  clear hW
  generalize hBe : w.heap.size = B at *
  have HBe := Lib.hid hBe
  have HB : Hid (Below B w W) := Lib.hid (by rw [← hBe]; exact hB)
  clear hBe hB
  have hBs : B + 3 ≤ W.heap.size := hsz
  clear hsz
  have c0 := hx.c0
  have c1 := hx.c1
  have c2 := hy.c0
  have c3 := hy.c1
  go_wp2_with fail
  refine (C1.out _).mono ?_
  rintro r w1 ⟨rfl, hE⟩
  have hx := hx.below hE
  have hy := hy.below hE
  have hbx := hbx.below hE
  have HB := Lib.hid (HB.out.trans (Below.mono hE (by omega)))
  have hBs : B + 3 ≤ w1.heap.size := by have := Below.size hE; omega
  clear c0 c1 c2 c3 hE
  have c0 := hx.c0
  have c1 := hx.c1
  have c2 := hy.c0
  have c3 := hy.c1
  go_wp2_with fail
  refine (C2.out _).mono ?_
  rintro r w2 ⟨rfl, hE⟩
  have hx := hx.below hE
  have hy := hy.below hE
  have hbx := hbx.below hE
  have HB := Lib.hid (HB.out.trans (Below.mono hE (by omega)))
  have hBs : B + 3 ≤ w2.heap.size := by have := Below.size hE; omega
  clear c0 c1 c2 c3 hE
  have c0 := hx.c0
  have c1 := hx.c1
  have c2 := hy.c0
  have c3 := hy.c1
  go_wp2_with fail
  have TAG := Lib.hid trivial
  go_region_held3 (fun wx => wx.cell? ⟨B, 0, none⟩ = some (.int .u64 (a : Int)) ∧ wx.cell? ⟨B, 1, none⟩ = some (.int .u64 (b : Int)) ∧ wx.cell? ⟨B + 1, 0, none⟩ = some (.int .u64 (c : Int)) ∧ wx.cell? ⟨B + 1, 1, none⟩ = some (.int .u64 (d : Int)))
    (first | exact ⟨c0, c1, c2, c3⟩ | exact ⟨x1.c0, x1.c1, y1.c0, y1.c1⟩ | exact ⟨x2.c0, x2.c1, y2.c0, y2.c1⟩ | exact ⟨x3.c0, x3.c1, y3.c0, y3.c1⟩ | (refine ⟨?_, ?_, ?_, ?_⟩ <;> go_simp))
    (first
      | (go_at_call 82; clear TAG; refine (C3.out _).mono ?_; rintro r w3 ⟨rfl, hE1⟩; have x1 := hx.drew.below hE1; have y1 := hy.drew.below hE1; have b1 := hbx.drew.below hE1; have e0 := x1.c0; have e1 := x1.c1; have e2 := y1.c0; have e3 := y1.c1)
      | (go_at_call 82; refine (C4.out _).mono ?_; rintro r w4 ⟨rfl, hE2⟩; have x2 := x1.below hE2; have y2 := y1.below hE2; have b2 := b1.below hE2; clear e0 e1 e2 e3; have e0 := x2.c0; have e1 := x2.c1; have e2 := y2.c0; have e3 := y2.c1)
      | (go_at_call 76; refine (C5.out _).mono ?_; rintro r w5 ⟨rfl, hE3⟩; have x3 := x2.below hE3; have y3 := y2.below hE3; have b3 := b2.below hE3; clear e0 e1 e2 e3; have e0 := x3.c0; have e1 := x3.c1; have e2 := y3.c0; have e3 := y3.c1; have q0 := b3.c0; have q1 := b3.c1; have q2 := b3.f 0; have q3 := b3.f 1))
  have hB2 := ((HB.out.trans (Below.mono (Below.refl _ w2).drew (Nat.le_of_lt hx.lt))).trans (Below.mono hE1 (Nat.le_of_lt hx.drew.lt))).trans (Below.mono hE2 (Nat.le_of_lt x1.lt))
  have hB2 := hB2.trans (Below.mono hE3 (Nat.le_of_lt x2.lt))
  have bx := b3
  have hst := bx.stored x y
  have z0 := hst.c0
  have z1 := hst.c1
  have HB := Lib.hid (hB2.trans ((only_iset2 w5 (B + 1 + 1) (.int .u64 x) (.int .u64 y)).below (by omega)))
  clear hst hB2
  go_wp2
  refine bodyPost_ret (v := .agg #[.int .u64 x, .int .u64 y]) (by simp [results, Tryz.results21, go_sem, z0, z1]) rfl ⟨rfl, ?_⟩
  show Below _ _ _
  rw [HBe.out]
  exact HB.out
end Go.Proofs.YtecaaklbhhjcjaaGreatDoor

namespace Go.Proofs.YtecaaklbhhjcjaaGreatDoor
open Go.RowKit

/-- block g holds these floats, in a block of the call's own -/
def FB (W : World) (g : Nat) (l : List Nat) : Prop := W.heap[g]? = some (.cells (l.map fun (f : Nat) => Value.int .u64 (f : Int)).toArray 38 (0, 0))
theorem FB.cell {W : World} {g : Nat} {l : List Nat} (h : FB W g l) (j : Nat) (hj : j < l.length) : W.cell? ⟨g, j, none⟩ = some (.int .u64 ((l.getD j 0 : Nat) : Int)) := by
  rw [cell_of_row W g j _ _ _ h]
  simp [List.getD, hj]
theorem FB.f {W : World} {g : Nat} {l : List Nat} (h : FB W g l) (o : Nat) : W.frozen? ⟨g, o, none⟩ = false := by
  unfold FB at h; simp [World.frozen?, h]
theorem FB.kept {w w' : World} {g B : Nat} {l : List Nat} (h : FB w g l) (hb : Below B w w') (hg : g < B) : FB w' g l := by
  unfold FB; rw [hb.block g hg]; exact h
theorem FB.lt {w : World} {g : Nat} {l : List Nat} (h : FB w g l) : g < w.heap.size := (Array.getElem?_eq_some_iff.1 h).1
theorem FB.below {w w' : World} {g : Nat} {l : List Nat} (h : FB w g l) (hb : Below w.heap.size w w') : FB w' g l := h.kept hb h.lt

def leastF (l : List Nat) : Nat := l.foldl (fun m f => if lessF f m then f else m) 9218868437227405312
def greatF (l : List Nat) : Nat := l.foldl (fun m f => if lessF m f then f else m) 18442240474082181120
theorem leastF_next (l : List Nat) (j : Nat) (h : j < l.length) : leastF (l.take (j + 1)) = if lessF (l.getD j 0) (leastF (l.take j)) then l.getD j 0 else leastF (l.take j) := by
  unfold leastF
  rw [List.take_succ_eq_append_getElem h, List.foldl_append]
  simp [List.getD, h]
theorem greatF_next (l : List Nat) (j : Nat) (h : j < l.length) : greatF (l.take (j + 1)) = if lessF (greatF (l.take j)) (l.getD j 0) then l.getD j 0 else greatF (l.take j) := by
  unfold greatF
  rw [List.take_succ_eq_append_getElem h, List.foldl_append]
  simp [List.getD, h]
theorem getD_lt {l : List Nat} (hl : ∀ x ∈ l, x < 18446744073709551616) (j : Nat) : l.getD j 0 < 18446744073709551616 := by
  by_cases h : j < l.length
  · simp only [List.getD, List.getElem?_eq_getElem h, Option.getD_some]
    exact hl _ (List.getElem_mem h)
  · simp [List.getD, List.getElem?_eq_none (by omega : l.length ≤ j)]
theorem leastF_lt {l : List Nat} (hl : ∀ x ∈ l, x < 18446744073709551616) : leastF l < 18446744073709551616 := by
  unfold leastF
  have : ∀ (l : List Nat) (m : Nat), m < 18446744073709551616 → (∀ x ∈ l, x < 18446744073709551616) → l.foldl (fun m f => if lessF f m then f else m) m < 18446744073709551616 := by
    intro l
    induction l with
    | nil => intro m hm _; exact hm
    | cons x l ih =>
      intro m hm h
      refine ih _ ?_ (fun y hy => h y (by simp [hy]))
      show (if lessF x m then x else m) < 18446744073709551616
      split
      · exact h x (by simp)
      · exact hm
  exact this l _ (by decide) hl
theorem greatF_lt {l : List Nat} (hl : ∀ x ∈ l, x < 18446744073709551616) : greatF l < 18446744073709551616 := by
  unfold greatF
  have : ∀ (l : List Nat) (m : Nat), m < 18446744073709551616 → (∀ x ∈ l, x < 18446744073709551616) → l.foldl (fun m f => if lessF m f then f else m) m < 18446744073709551616 := by
    intro l
    induction l with
    | nil => intro m hm _; exact hm
    | cons x l ih =>
      intro m hm h
      refine ih _ ?_ (fun y hy => h y (by simp [hy]))
      show (if lessF m x then x else m) < 18446744073709551616
      split
      · exact h x (by simp)
      · exact hm
  exact this l _ (by decide) hl

set_option maxRecDepth 100000 in
set_option maxHeartbeats 2000000 in
theorem least_any (g : Nat) (l : List Nat) (n : Nat) (hn : l.length = n) (hn1 : n ≤ 1000) (hl : ∀ x ∈ l, x < 18446744073709551616) (w : World) (h : FB w g l) :
    Calls Tryz.prog 98 #[.slice (some ⟨g, 0, none⟩) n n] w fun e w' => e = .returned (.int .u64 ((leastF l : Nat) : Int)) ∧ Ext w w' := by
  have HN := Lib.hid hn; clear hn
  have HL := Lib.hid hl; clear hl
  go_enter Tryz.func98, Tryz.ntmps98
  go_wp2
  go_loopw [3, 5, 8] (fun m _ i wr => ∃ j : Nat, j ≤ n ∧ i = .int .i64 (j : Int) ∧ m = .int .u64 ((leastF (l.take j) : Nat) : Int) ∧ Ext w wr) (fun _ _ i _ => n - (intOf i).toNat)
  case atStart => exact ⟨0, Nat.zero_le _, rfl, rfl, Ext.refl w⟩
  case round =>
    obtain ⟨j, hj, rfl, rfl, hE⟩ := hrel
    have hb := h.below hE
    have HE := Lib.hid hE
    by_cases hlt : j < n
    · have hc := hb.cell j (by rw [HN.out]; exact hlt)
      have hnext := leastF_next l j (by rw [HN.out]; exact hlt)
      have hx := getD_lt HL.out j
      have hm := leastF_lt (l := l.take j) (fun x hx => HL.out x (List.mem_of_mem_take hx))
      obtain ⟨x, hxe⟩ : ∃ x, l.getD j 0 = x := ⟨_, rfl⟩
      obtain ⟨m, hme⟩ : ∃ m, leastF (l.take j) = m := ⟨_, rfl⟩
      rw [hxe] at hc hnext hx
      rw [hme] at hnext hm ⊢
      clear hxe hme hE hb
      cases hr : lessF x m with
      | true =>
        have C := Lib.hid (isLess_at x m hx hm rfl rfl true hr)
        rw [hr, if_pos rfl] at hnext
        have HNX := Lib.hid hnext
        clear hnext hr hx hm
        go_wp2_with fail
        refine (C.out _).mono ?_
        rintro r w1 ⟨rfl, hE1⟩
        go_wp2
        go_roundw
        case rel => exact ⟨j + 1, by omega, by go_num, by rw [HNX.out], Ext.trans HE.out hE1⟩
        case measure => simp [intOf] <;> omega
      | false =>
        have C := Lib.hid (isLess_at x m hx hm rfl rfl false hr)
        rw [hr, if_neg (by simp)] at hnext
        have HNX := Lib.hid hnext
        clear hnext hr hx hm
        go_wp2_with fail
        refine (C.out _).mono ?_
        rintro r w1 ⟨rfl, hE1⟩
        go_wp2
        go_roundw
        case rel => exact ⟨j + 1, by omega, by go_num, by rw [HNX.out], Ext.trans HE.out hE1⟩
        case measure => simp [intOf] <;> omega
    · obtain rfl : j = n := by omega
      have HT := Lib.hid (show l.take j = l from List.take_of_length_le (by rw [HN.out]; exact Nat.le_refl _))
      clear hE hb
      go_wp2
      go_ret
      exact ⟨ret_int (by rw [HT.out]), HE.out⟩

set_option maxRecDepth 100000 in
set_option maxHeartbeats 2000000 in
theorem greatest_any (g : Nat) (l : List Nat) (n : Nat) (hn : l.length = n) (hn1 : n ≤ 1000) (hl : ∀ x ∈ l, x < 18446744073709551616) (w : World) (h : FB w g l) :
    Calls Tryz.prog 95 #[.slice (some ⟨g, 0, none⟩) n n] w fun e w' => e = .returned (.int .u64 ((greatF l : Nat) : Int)) ∧ Ext w w' := by
  have HN := Lib.hid hn; clear hn
  have HL := Lib.hid hl; clear hl
  go_enter Tryz.func95, Tryz.ntmps95
  go_wp2
  go_loopw [3, 5, 8] (fun m _ i wr => ∃ j : Nat, j ≤ n ∧ i = .int .i64 (j : Int) ∧ m = .int .u64 ((greatF (l.take j) : Nat) : Int) ∧ Ext w wr) (fun _ _ i _ => n - (intOf i).toNat)
  case atStart => exact ⟨0, Nat.zero_le _, rfl, rfl, Ext.refl w⟩
  case round =>
    obtain ⟨j, hj, rfl, rfl, hE⟩ := hrel
    have hb := h.below hE
    have HE := Lib.hid hE
    by_cases hlt : j < n
    · have hc := hb.cell j (by rw [HN.out]; exact hlt)
      have hnext := greatF_next l j (by rw [HN.out]; exact hlt)
      have hx := getD_lt HL.out j
      have hm := greatF_lt (l := l.take j) (fun x hx => HL.out x (List.mem_of_mem_take hx))
      obtain ⟨x, hxe⟩ : ∃ x, l.getD j 0 = x := ⟨_, rfl⟩
      obtain ⟨m, hme⟩ : ∃ m, greatF (l.take j) = m := ⟨_, rfl⟩
      rw [hxe] at hc hnext hx
      rw [hme] at hnext hm ⊢
      clear hxe hme hE hb
      cases hr : lessF m x with
      | true =>
        have C := Lib.hid (isLess_at m x hm hx rfl rfl true hr)
        rw [hr, if_pos rfl] at hnext
        have HNX := Lib.hid hnext
        clear hnext hr hx hm
        go_wp2_with fail
        refine (C.out _).mono ?_
        rintro r w1 ⟨rfl, hE1⟩
        go_wp2
        go_roundw
        case rel => exact ⟨j + 1, by omega, by go_num, by rw [HNX.out], Ext.trans HE.out hE1⟩
        case measure => simp [intOf] <;> omega
      | false =>
        have C := Lib.hid (isLess_at m x hm hx rfl rfl false hr)
        rw [hr, if_neg (by simp)] at hnext
        have HNX := Lib.hid hnext
        clear hnext hr hx hm
        go_wp2_with fail
        refine (C.out _).mono ?_
        rintro r w1 ⟨rfl, hE1⟩
        go_wp2
        go_roundw
        case rel => exact ⟨j + 1, by omega, by go_num, by rw [HNX.out], Ext.trans HE.out hE1⟩
        case measure => simp [intOf] <;> omega
    · obtain rfl : j = n := by omega
      have HT := Lib.hid (show l.take j = l from List.take_of_length_le (by rw [HN.out]; exact Nat.le_refl _))
      clear hE hb
      go_wp2
      go_ret
      exact ⟨ret_int (by rw [HT.out]), HE.out⟩

end Go.Proofs.YtecaaklbhhjcjaaGreatDoor
