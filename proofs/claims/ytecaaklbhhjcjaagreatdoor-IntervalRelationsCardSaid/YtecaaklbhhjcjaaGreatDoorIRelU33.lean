import Derived.Test.YtecaaklbhhjcjaaGreatDoorIRelU29
namespace Go.Proofs.YtecaaklbhhjcjaaGreatDoor
open Go.RowKit

theorem eAAAd (V : World) (o o' o2 : Obj) : Ext V (((V.alloc o).alloc o').alloc o2).drew := (eA (eA (eA (Ext.refl V) o) o') o2).drew
theorem fx10 (V : World) (x y : Nat) : FB (V.alloc (.cells #[.int .u64 (x : Int), .int .u64 (y : Int)] 38)) (V.heap.size) [x, y] := by
  have h : FB (V.alloc (.cells #[.int .u64 (x : Int), .int .u64 (y : Int)] 38)) (V.heap.size) [x, y] := by
    have h := fbA V x y
    simpa using h
  exact h
theorem fx10d (V : World) (x y : Nat) : FB (V.alloc (.cells #[.int .u64 (x : Int), .int .u64 (y : Int)] 38)).drew (V.heap.size) [x, y] := fx10 V x y
theorem ix10 {V : World} {w : World} (hE : Ext (V.alloc (.cells #[.int .u64 0, .int .u64 0] 40)) w) : IBox w (V.heap.size) 0 0 ∧ V.heap.size ≤ V.heap.size := by
  have h : IBox (V.alloc (.cells #[.int .u64 0, .int .u64 0] 40)) (V.heap.size) 0 0 := by
    have h := IBox.new V 0 0
    simpa using h
  exact ⟨IBox.below (h) hE, by omega⟩
theorem ix10d {V : World} {w : World} (hE : Ext (V.alloc (.cells #[.int .u64 0, .int .u64 0] 40)).drew w) : IBox w (V.heap.size) 0 0 ∧ V.heap.size ≤ V.heap.size := ix10 (V := V) (Ext.trans (Below.refl _ _).drew hE)
theorem fx20 (V : World) (x y : Nat) (o1 : Obj) : FB ((V.alloc (.cells #[.int .u64 (x : Int), .int .u64 (y : Int)] 38)).alloc o1) (V.heap.size) [x, y] := by
  have h : FB (V.alloc (.cells #[.int .u64 (x : Int), .int .u64 (y : Int)] 38)) (V.heap.size) [x, y] := by
    have h := fbA V x y
    simpa using h
  exact FB.below (h) ((Below.refl _ _).alloc (Nat.le_refl _) _)
theorem fx20d (V : World) (x y : Nat) (o1 : Obj) : FB ((V.alloc (.cells #[.int .u64 (x : Int), .int .u64 (y : Int)] 38)).alloc o1).drew (V.heap.size) [x, y] := fx20 V x y o1
theorem ix20 {V : World} {o1 : Obj} {w : World} (hE : Ext ((V.alloc (.cells #[.int .u64 0, .int .u64 0] 40)).alloc o1) w) : IBox w (V.heap.size) 0 0 ∧ V.heap.size ≤ V.heap.size := by
  have h : IBox (V.alloc (.cells #[.int .u64 0, .int .u64 0] 40)) (V.heap.size) 0 0 := by
    have h := IBox.new V 0 0
    simpa using h
  exact ⟨IBox.below (IBox.below (h) ((Below.refl _ _).alloc (Nat.le_refl _) _)) hE, by omega⟩
theorem ix20d {V : World} {o1 : Obj} {w : World} (hE : Ext ((V.alloc (.cells #[.int .u64 0, .int .u64 0] 40)).alloc o1).drew w) : IBox w (V.heap.size) 0 0 ∧ V.heap.size ≤ V.heap.size := ix20 (V := V) (Ext.trans (Below.refl _ _).drew hE)
theorem fx21 (V : World) (x y : Nat) (o0 : Obj) : FB ((V.alloc o0).alloc (.cells #[.int .u64 (x : Int), .int .u64 (y : Int)] 38)) (V.heap.size + 1) [x, y] := by
  have h : FB ((V.alloc o0).alloc (.cells #[.int .u64 (x : Int), .int .u64 (y : Int)] 38)) (V.heap.size + 1) [x, y] := by
    have h := fbA (V.alloc o0) x y
    simpa using h
  exact h
theorem fx21d (V : World) (x y : Nat) (o0 : Obj) : FB ((V.alloc o0).alloc (.cells #[.int .u64 (x : Int), .int .u64 (y : Int)] 38)).drew (V.heap.size + 1) [x, y] := fx21 V x y o0
theorem ix21 {V : World} {o0 : Obj} {w : World} (hE : Ext ((V.alloc o0).alloc (.cells #[.int .u64 0, .int .u64 0] 40)) w) : IBox w (V.heap.size + 1) 0 0 ∧ V.heap.size ≤ V.heap.size + 1 := by
  have h : IBox ((V.alloc o0).alloc (.cells #[.int .u64 0, .int .u64 0] 40)) (V.heap.size + 1) 0 0 := by
    have h := IBox.new (V.alloc o0) 0 0
    simpa using h
  exact ⟨IBox.below (h) hE, by omega⟩
theorem ix21d {V : World} {o0 : Obj} {w : World} (hE : Ext ((V.alloc o0).alloc (.cells #[.int .u64 0, .int .u64 0] 40)).drew w) : IBox w (V.heap.size + 1) 0 0 ∧ V.heap.size ≤ V.heap.size + 1 := ix21 (V := V) (Ext.trans (Below.refl _ _).drew hE)
theorem fx30 (V : World) (x y : Nat) (o1 o2 : Obj) : FB (((V.alloc (.cells #[.int .u64 (x : Int), .int .u64 (y : Int)] 38)).alloc o1).alloc o2) (V.heap.size) [x, y] := by
  have h : FB (V.alloc (.cells #[.int .u64 (x : Int), .int .u64 (y : Int)] 38)) (V.heap.size) [x, y] := by
    have h := fbA V x y
    simpa using h
  exact FB.below (FB.below (h) ((Below.refl _ _).alloc (Nat.le_refl _) _)) ((Below.refl _ _).alloc (Nat.le_refl _) _)
theorem fx30d (V : World) (x y : Nat) (o1 o2 : Obj) : FB (((V.alloc (.cells #[.int .u64 (x : Int), .int .u64 (y : Int)] 38)).alloc o1).alloc o2).drew (V.heap.size) [x, y] := fx30 V x y o1 o2
theorem ix30 {V : World} {o1 o2 : Obj} {w : World} (hE : Ext (((V.alloc (.cells #[.int .u64 0, .int .u64 0] 40)).alloc o1).alloc o2) w) : IBox w (V.heap.size) 0 0 ∧ V.heap.size ≤ V.heap.size := by
  have h : IBox (V.alloc (.cells #[.int .u64 0, .int .u64 0] 40)) (V.heap.size) 0 0 := by
    have h := IBox.new V 0 0
    simpa using h
  exact ⟨IBox.below (IBox.below (IBox.below (h) ((Below.refl _ _).alloc (Nat.le_refl _) _)) ((Below.refl _ _).alloc (Nat.le_refl _) _)) hE, by omega⟩
theorem ix30d {V : World} {o1 o2 : Obj} {w : World} (hE : Ext (((V.alloc (.cells #[.int .u64 0, .int .u64 0] 40)).alloc o1).alloc o2).drew w) : IBox w (V.heap.size) 0 0 ∧ V.heap.size ≤ V.heap.size := ix30 (V := V) (Ext.trans (Below.refl _ _).drew hE)
theorem fx31 (V : World) (x y : Nat) (o0 o2 : Obj) : FB (((V.alloc o0).alloc (.cells #[.int .u64 (x : Int), .int .u64 (y : Int)] 38)).alloc o2) (V.heap.size + 1) [x, y] := by
  have h : FB ((V.alloc o0).alloc (.cells #[.int .u64 (x : Int), .int .u64 (y : Int)] 38)) (V.heap.size + 1) [x, y] := by
    have h := fbA (V.alloc o0) x y
    simpa using h
  exact FB.below (h) ((Below.refl _ _).alloc (Nat.le_refl _) _)
theorem fx31d (V : World) (x y : Nat) (o0 o2 : Obj) : FB (((V.alloc o0).alloc (.cells #[.int .u64 (x : Int), .int .u64 (y : Int)] 38)).alloc o2).drew (V.heap.size + 1) [x, y] := fx31 V x y o0 o2
theorem ix31 {V : World} {o0 o2 : Obj} {w : World} (hE : Ext (((V.alloc o0).alloc (.cells #[.int .u64 0, .int .u64 0] 40)).alloc o2) w) : IBox w (V.heap.size + 1) 0 0 ∧ V.heap.size ≤ V.heap.size + 1 := by
  have h : IBox ((V.alloc o0).alloc (.cells #[.int .u64 0, .int .u64 0] 40)) (V.heap.size + 1) 0 0 := by
    have h := IBox.new (V.alloc o0) 0 0
    simpa using h
  exact ⟨IBox.below (IBox.below (h) ((Below.refl _ _).alloc (Nat.le_refl _) _)) hE, by omega⟩
theorem ix31d {V : World} {o0 o2 : Obj} {w : World} (hE : Ext (((V.alloc o0).alloc (.cells #[.int .u64 0, .int .u64 0] 40)).alloc o2).drew w) : IBox w (V.heap.size + 1) 0 0 ∧ V.heap.size ≤ V.heap.size + 1 := ix31 (V := V) (Ext.trans (Below.refl _ _).drew hE)
theorem fx32 (V : World) (x y : Nat) (o0 o1 : Obj) : FB (((V.alloc o0).alloc o1).alloc (.cells #[.int .u64 (x : Int), .int .u64 (y : Int)] 38)) (V.heap.size + 1 + 1) [x, y] := by
  have h : FB (((V.alloc o0).alloc o1).alloc (.cells #[.int .u64 (x : Int), .int .u64 (y : Int)] 38)) (V.heap.size + 1 + 1) [x, y] := by
    have h := fbA ((V.alloc o0).alloc o1) x y
    simpa using h
  exact h
theorem fx32d (V : World) (x y : Nat) (o0 o1 : Obj) : FB (((V.alloc o0).alloc o1).alloc (.cells #[.int .u64 (x : Int), .int .u64 (y : Int)] 38)).drew (V.heap.size + 1 + 1) [x, y] := fx32 V x y o0 o1
theorem ix32 {V : World} {o0 o1 : Obj} {w : World} (hE : Ext (((V.alloc o0).alloc o1).alloc (.cells #[.int .u64 0, .int .u64 0] 40)) w) : IBox w (V.heap.size + 1 + 1) 0 0 ∧ V.heap.size ≤ V.heap.size + 1 + 1 := by
  have h : IBox (((V.alloc o0).alloc o1).alloc (.cells #[.int .u64 0, .int .u64 0] 40)) (V.heap.size + 1 + 1) 0 0 := by
    have h := IBox.new ((V.alloc o0).alloc o1) 0 0
    simpa using h
  exact ⟨IBox.below (h) hE, by omega⟩
theorem ix32d {V : World} {o0 o1 : Obj} {w : World} (hE : Ext (((V.alloc o0).alloc o1).alloc (.cells #[.int .u64 0, .int .u64 0] 40)).drew w) : IBox w (V.heap.size + 1 + 1) 0 0 ∧ V.heap.size ≤ V.heap.size + 1 + 1 := ix32 (V := V) (Ext.trans (Below.refl _ _).drew hE)

/-- what Meet returns -/
def meetV (lo hi : Int) (ok : Bool) : Value := .tuple #[if ok then .agg #[.int .u64 lo, .int .u64 hi] else .agg #[.int .u64 0, .int .u64 0], .bool ok]

set_option maxRecDepth 100000 in
set_option maxHeartbeats 40000000 in
theorem imeet_yes (a b c d : Nat) (ha : a < 18446744073709551616) (hb : b < 18446744073709551616) (hc : c < 18446744073709551616) (hd : d < 18446744073709551616) (h1 : validF a b = true) (h2 : validF c d = true) (ok : Bool) (h3 : validF (meetLo a c) (meetHi b d) = ok) (w : World) :
    Calls Tryz.prog 37 #[.agg #[.int .u64 (a : Int), .int .u64 (b : Int)], .agg #[.int .u64 (c : Int), .int .u64 (d : Int)]] w fun e w' => e = .returned (meetV ((meetLo a c : Nat) : Int) ((meetHi b d : Nat) : Int) ok) ∧ Ext w w' := by
  have C1 := Lib.hid (ivalid_at a b ha hb rfl rfl true h1)
  have C2 := Lib.hid (ivalid_at c d hc hd rfl rfl true h2)
  have HL1 := Lib.hid (two_lt ha hc)
  have HL2 := Lib.hid (two_lt hb hd)
  have CB := between_any (greatF [a, c]) (leastF [b, d])
  obtain ⟨l1, l2, -, -⟩ := meet_lt ha hb hc hd
  obtain ⟨x, hx⟩ : ∃ x : Int, ((meetLo a c : Nat) : Int) = x := ⟨_, rfl⟩
  obtain ⟨y, hy⟩ : ∃ y : Int, ((meetHi b d : Nat) : Int) = y := ⟨_, rfl⟩
  have C3 := Lib.hid (ivalid_at (meetLo a c) (meetHi b d) l1 l2 hx hy ok h3)
  have CB := Lib.hid (show ∀ w, Calls Tryz.prog 76 #[.int .u64 ((greatF [a, c] : Nat) : Int), .int .u64 ((leastF [b, d] : Nat) : Int)] w fun e w' => e = .returned (.agg #[.int .u64 x, .int .u64 y]) ∧ Ext w w' from hx ▸ hy ▸ CB)
  rw [hx, hy]
  clear h1 h2 h3 hx hy l1 l2 ha hb hc hd
  go_enter Tryz.func37, Tryz.ntmps37
  go_upto_region 1 with fail
  obtain ⟨W, hW, hB, hx, hy, hbx, hsz⟩ := ibox_three w a b c d 0 0
  rw [← hW]
  clear hW
  generalize hBe : w.heap.size = B at *
  have HBe := Lib.hid hBe
  have HB : Hid (Below B w W) := Lib.hid (by rw [← hBe]; exact hB)
  clear hBe hB
  have hBs : B + 3 ≤ W.heap.size := hsz
  clear hsz
  have c0 := hx.c0
  have c1 := hx.c1
  have c2 := hy.c0
  have c3 := hy.c1
  go_wp2_with fail
  refine (C1.out _).mono ?_
  rintro r w1 ⟨rfl, hE⟩
  have hx := hx.below hE
  have hy := hy.below hE
  have hbx := hbx.below hE
  have HB := Lib.hid (HB.out.trans (Below.mono hE (by omega)))
  have hBs : B + 3 ≤ w1.heap.size := by have := Below.size hE; omega
  clear c0 c1 c2 c3 hE
  have c0 := hx.c0
  have c1 := hx.c1
  have c2 := hy.c0
  have c3 := hy.c1
  go_wp2_with fail
  refine (C2.out _).mono ?_
  rintro r V ⟨rfl, hE⟩
  have hx := hx.below hE
  have hy := hy.below hE
  have hbx := hbx.below hE
  have HB := Lib.hid (HB.out.trans (Below.mono hE (by omega)))
  have hBs : B + 3 ≤ V.heap.size := by have := Below.size hE; omega
  clear c0 c1 c2 c3 hE C1 C2
  have c0 := hx.c0
  have c1 := hx.c1
  have c2 := hy.c0
  have c3 := hy.c1
  have HC := Lib.hid (show ∀ wx, Ext V wx → (wx.cell? ⟨B, 0, none⟩ = some (.int .u64 (a : Int)) ∧ wx.cell? ⟨B, 1, none⟩ = some (.int .u64 (b : Int)) ∧ wx.cell? ⟨B + 1, 0, none⟩ = some (.int .u64 (c : Int)) ∧ wx.cell? ⟨B + 1, 1, none⟩ = some (.int .u64 (d : Int))) from fun wx h => ⟨(hx.below h).c0, (hx.below h).c1, (hy.below h).c0, (hy.below h).c1⟩)
  go_upto_region 3 with fail
  have st : Ext V V.drew := (Below.refl _ _).drew
  go_cut [6] from 7 (fun p wx => ∃ G, p = .pointer (some ⟨G, 0, none⟩) ∧ IBox wx G x y ∧ V.heap.size ≤ G ∧ Ext V wx)
  case first =>
    go_region_held3 (fun wx => wx.cell? ⟨B, 0, none⟩ = some (.int .u64 (a : Int)) ∧ wx.cell? ⟨B, 1, none⟩ = some (.int .u64 (b : Int)) ∧ wx.cell? ⟨B + 1, 0, none⟩ = some (.int .u64 (c : Int)) ∧ wx.cell? ⟨B + 1, 1, none⟩ = some (.int .u64 (d : Int)))
      (first | exact HC.out _ (by first | assumption | exact eA (by assumption) _ | exact eAd _ _ | exact eAAd _ _ _ | exact eAAAd _ _ _ _ | exact eA (eA (by assumption) _) _ | exact eA (eA (eA (by assumption) _) _) _))
      (first
        | (go_at_call 95; refine (greatest_any _ [a, c] 2 rfl (by omega) HL1.out _ (by first | exact fx10d _ _ _ | exact fx20d _ _ _ _ | exact fx21d _ _ _ _ | exact fx30d _ _ _ _ _ | exact fx31d _ _ _ _ _ | exact fx32d _ _ _ _ _ | exact fx10 _ _ _ | exact fx20 _ _ _ _ | exact fx21 _ _ _ _ | exact fx30 _ _ _ _ _ | exact fx31 _ _ _ _ _ | exact fx32 _ _ _ _ _)).mono ?_; rintro r wa ⟨rfl, hEa⟩; have sta : Ext V wa := Ext.trans (by first | assumption | exact eA (by assumption) _ | exact eAd _ _ | exact eAAd _ _ _ | exact eAAAd _ _ _ _ | exact eA (eA (by assumption) _) _ | exact eA (eA (eA (by assumption) _) _) _) hEa; have za := Below.size sta; (first | (have bq := ix32d hEa; have bz := bq.1; have bG := bq.2; clear bq) | (have bq := ix32 hEa; have bz := bq.1; have bG := bq.2; clear bq) | (have bq := ix31d hEa; have bz := bq.1; have bG := bq.2; clear bq) | (have bq := ix31 hEa; have bz := bq.1; have bG := bq.2; clear bq) | (have bq := ix30d hEa; have bz := bq.1; have bG := bq.2; clear bq) | (have bq := ix30 hEa; have bz := bq.1; have bG := bq.2; clear bq) | (have bq := ix21d hEa; have bz := bq.1; have bG := bq.2; clear bq) | (have bq := ix21 hEa; have bz := bq.1; have bG := bq.2; clear bq) | (have bq := ix20d hEa; have bz := bq.1; have bG := bq.2; clear bq) | (have bq := ix20 hEa; have bz := bq.1; have bG := bq.2; clear bq) | (have bq := ix10d hEa; have bz := bq.1; have bG := bq.2; clear bq) | (have bq := ix10 hEa; have bz := bq.1; have bG := bq.2; clear bq) | skip))
        | (go_at_call 98; refine (least_any _ [b, d] 2 rfl (by omega) HL2.out _ (by first | exact fx10d _ _ _ | exact fx20d _ _ _ _ | exact fx21d _ _ _ _ | exact fx30d _ _ _ _ _ | exact fx31d _ _ _ _ _ | exact fx32d _ _ _ _ _ | exact fx10 _ _ _ | exact fx20 _ _ _ _ | exact fx21 _ _ _ _ | exact fx30 _ _ _ _ _ | exact fx31 _ _ _ _ _ | exact fx32 _ _ _ _ _ | exact FB.below (fx10d _ _ _) hEa | exact FB.below (fx20d _ _ _ _) hEa | exact FB.below (fx21d _ _ _ _) hEa | exact FB.below (fx30d _ _ _ _ _) hEa | exact FB.below (fx31d _ _ _ _ _) hEa | exact FB.below (fx32d _ _ _ _ _) hEa | exact FB.below (fx10 _ _ _) hEa | exact FB.below (fx20 _ _ _ _) hEa | exact FB.below (fx21 _ _ _ _) hEa | exact FB.below (fx30 _ _ _ _ _) hEa | exact FB.below (fx31 _ _ _ _ _) hEa | exact FB.below (fx32 _ _ _ _ _) hEa | exact FB.below (FB.below (fx10d _ _ _) hEa) ((Below.refl _ _).alloc (Nat.le_refl _) _) | exact FB.below (FB.below (fx20d _ _ _ _) hEa) ((Below.refl _ _).alloc (Nat.le_refl _) _) | exact FB.below (FB.below (fx21d _ _ _ _) hEa) ((Below.refl _ _).alloc (Nat.le_refl _) _) | exact FB.below (FB.below (fx30d _ _ _ _ _) hEa) ((Below.refl _ _).alloc (Nat.le_refl _) _) | exact FB.below (FB.below (fx31d _ _ _ _ _) hEa) ((Below.refl _ _).alloc (Nat.le_refl _) _) | exact FB.below (FB.below (fx32d _ _ _ _ _) hEa) ((Below.refl _ _).alloc (Nat.le_refl _) _) | exact FB.below (FB.below (fx10 _ _ _) hEa) ((Below.refl _ _).alloc (Nat.le_refl _) _) | exact FB.below (FB.below (fx20 _ _ _ _) hEa) ((Below.refl _ _).alloc (Nat.le_refl _) _) | exact FB.below (FB.below (fx21 _ _ _ _) hEa) ((Below.refl _ _).alloc (Nat.le_refl _) _) | exact FB.below (FB.below (fx30 _ _ _ _ _) hEa) ((Below.refl _ _).alloc (Nat.le_refl _) _) | exact FB.below (FB.below (fx31 _ _ _ _ _) hEa) ((Below.refl _ _).alloc (Nat.le_refl _) _) | exact FB.below (FB.below (fx32 _ _ _ _ _) hEa) ((Below.refl _ _).alloc (Nat.le_refl _) _))).mono ?_; rintro r wb ⟨rfl, hEb⟩; have stb : Ext V wb := Ext.trans (by first | assumption | exact eA (by assumption) _ | exact eAd _ _ | exact eAAd _ _ _ | exact eAAAd _ _ _ _ | exact eA (eA (by assumption) _) _ | exact eA (eA (eA (by assumption) _) _) _) hEb; have zb := Below.size stb; (first | (have bz := bz.below hEb) | (have bz := (bz.below ((Below.refl _ _).alloc (Nat.le_refl _) _)).below hEb) | (have bq := ix21d hEb; have bz := bq.1; have bG := bq.2; clear bq) | (have bq := ix21 hEb; have bz := bq.1; have bG := bq.2; clear bq) | (have bq := ix20d hEb; have bz := bq.1; have bG := bq.2; clear bq) | (have bq := ix20 hEb; have bz := bq.1; have bG := bq.2; clear bq) | (have bq := ix10d hEb; have bz := bq.1; have bG := bq.2; clear bq) | (have bq := ix10 hEb; have bz := bq.1; have bG := bq.2; clear bq) | skip))
        | (go_at_call 76; refine (CB.out _).mono ?_; rintro r wd ⟨rfl, hEd⟩; have std : Ext V wd := Ext.trans (by first | assumption | exact eA (by assumption) _ | exact eAd _ _ | exact eAAd _ _ _ | exact eAAAd _ _ _ _ | exact eA (eA (by assumption) _) _ | exact eA (eA (eA (by assumption) _) _) _) hEd; have zd := Below.size std; (first | (have bz := bz.below hEd) | (have bq := ix10d hEd; have bz := bq.1; have bG := bq.2; clear bq) | (have bq := ix10 hEd; have bz := bq.1; have bG := bq.2; clear bq) | skip); obtain ⟨e0, e1, e2, e3⟩ := HC.out wd std; (first | (have z0 := bz.c0; have z1 := bz.c1; have z2 := bz.f 0; have z3 := bz.f 1; have bput := ibox_put bz x y std (by omega); have s1 := bput.1; have s2 : Ext V _ := bput.2; clear bput) | skip)))
    all_goals
      go_wp2
      go_meet
    all_goals
      first
        | exact ⟨_, rfl, s1, by omega, s2⟩
        | exact ⟨_, rfl, IBox.new wd x y, zd, eA std _⟩
  case rest =>
    obtain ⟨G, rfl, hG, hVG, hE⟩ := hcut
    obtain ⟨V2, hV2⟩ : ∃ V2, V2 = wc := ⟨wc, rfl⟩
    subst hV2
    have hbx := hbx.below hE
    have HB2 : Below B w V2 := HB.out.trans (Below.mono hE (by omega))
    have hz2 : B + 3 ≤ V2.heap.size := by have := Below.size hE; omega
    clear c0 c1 c2 c3 hx hy hE HC st HL1 HL2 CB
    have c0 := hG.c0
    have c1 := hG.c1
    go_wp2_with fail
    refine (C3.out _).mono ?_
    rintro r V3 ⟨rfl, hE3⟩
    have hG := hG.below hE3
    have hbx := hbx.below hE3
    have HB3 : Below B w V3 := HB2.trans (Below.mono hE3 (by omega))
    clear c0 c1 hE3 HB2
    have c0 := hG.c0
    have c1 := hG.c1
    have q0 := hbx.c0
    have q1 := hbx.c1
    have q2 := hbx.f 0
    have q3 := hbx.f 1
    cases ok
    · have hst := hbx.stored 0 0
      have z0 := hst.c0
      have z1 := hst.c1
      have HF := Lib.hid (HB3.trans ((only_iset2 V3 (B + 1 + 1) (.int .u64 0) (.int .u64 0)).below (by omega)))
      clear hst HB3
      go_wp2
      refine bodyPost_ret (v := .tuple #[.agg #[.int .u64 0, .int .u64 0], .bool false]) (by simp [results, Tryz.results37, go_sem, z0, z1]) rfl ⟨rfl, ?_⟩
      show Below _ _ _
      rw [HBe.out]
      exact HF.out
    · have hst := hbx.stored x y
      have z0 := hst.c0
      have z1 := hst.c1
      have HF := Lib.hid (HB3.trans ((only_iset2 V3 (B + 1 + 1) (.int .u64 x) (.int .u64 y)).below (by omega)))
      clear hst HB3
      go_wp2
      refine bodyPost_ret (v := .tuple #[.agg #[.int .u64 x, .int .u64 y], .bool true]) (by simp [results, Tryz.results37, go_sem, z0, z1]) rfl ⟨rfl, ?_⟩
      show Below _ _ _
      rw [HBe.out]
      exact HF.out

set_option maxRecDepth 100000 in
set_option maxHeartbeats 4000000 in
theorem imeet_no (a b c d : Nat) (ha : a < 18446744073709551616) (hb : b < 18446744073709551616) (hc : c < 18446744073709551616) (hd : d < 18446744073709551616) (h : validF a b = false ∨ validF c d = false) (w : World) (x y : Int) :
    Calls Tryz.prog 37 #[.agg #[.int .u64 (a : Int), .int .u64 (b : Int)], .agg #[.int .u64 (c : Int), .int .u64 (d : Int)]] w fun e w' => e = .returned (meetV x y false) ∧ Ext w w' := by
  obtain ⟨v1, h1⟩ : ∃ v, validF a b = v := ⟨_, rfl⟩
  obtain ⟨v2, h2⟩ : ∃ v, validF c d = v := ⟨_, rfl⟩
  have C1 := Lib.hid (ivalid_at a b ha hb rfl rfl v1 h1)
  have C2 := Lib.hid (ivalid_at c d hc hd rfl rfl v2 h2)
  have hv : v1 = false ∨ v1 = true ∧ v2 = false := by
    rw [h1, h2] at h
    cases v1
    · exact Or.inl rfl
    · rcases h with h | h
      · cases h
      · exact Or.inr ⟨rfl, h⟩
  clear h h1 h2 ha hb hc hd
  go_enter Tryz.func37, Tryz.ntmps37
  go_upto_region 1 with fail
  obtain ⟨W, hW, hB, hx, hy, hbx, hsz⟩ := ibox_three w a b c d 0 0
  rw [← hW]
  clear hW
  generalize hBe : w.heap.size = B at *
  have HBe := Lib.hid hBe
  have HB : Hid (Below B w W) := Lib.hid (by rw [← hBe]; exact hB)
  clear hBe hB
  have hBs : B + 3 ≤ W.heap.size := hsz
  clear hsz
  have c0 := hx.c0
  have c1 := hx.c1
  have c2 := hy.c0
  have c3 := hy.c1
  go_wp2_with fail
  refine (C1.out _).mono ?_
  rintro r w1 ⟨rfl, hE⟩
  have hx := hx.below hE
  have hy := hy.below hE
  have hbx := hbx.below hE
  have HB := Lib.hid (HB.out.trans (Below.mono hE (by omega)))
  have hBs : B + 3 ≤ w1.heap.size := by have := Below.size hE; omega
  clear c0 c1 c2 c3 hE
  have c0 := hx.c0
  have c1 := hx.c1
  have c2 := hy.c0
  have c3 := hy.c1
  rcases hv with rfl | ⟨rfl, rfl⟩
  · have q0 := hbx.c0
    have q1 := hbx.c1
    have q2 := hbx.f 0
    have q3 := hbx.f 1
    have hst := hbx.stored 0 0
    have z0 := hst.c0
    have z1 := hst.c1
    have HF := Lib.hid (HB.out.trans ((only_iset2 w1 (B + 1 + 1) (.int .u64 0) (.int .u64 0)).below (by omega)))
    clear hst
    go_wp2
    refine bodyPost_ret (v := .tuple #[.agg #[.int .u64 0, .int .u64 0], .bool false]) (by simp [results, Tryz.results37, go_sem, z0, z1]) rfl ⟨rfl, ?_⟩
    show Below _ _ _
    rw [HBe.out]
    exact HF.out
  · go_wp2_with fail
    refine (C2.out _).mono ?_
    rintro r V ⟨rfl, hE⟩
    have hbx := hbx.below hE
    have HB := Lib.hid (HB.out.trans (Below.mono hE (by omega)))
    have hBs : B + 3 ≤ V.heap.size := by have := Below.size hE; omega
    clear c0 c1 c2 c3 hE hx hy
    have q0 := hbx.c0
    have q1 := hbx.c1
    have q2 := hbx.f 0
    have q3 := hbx.f 1
    have hst := hbx.stored 0 0
    have z0 := hst.c0
    have z1 := hst.c1
    have HF := Lib.hid (HB.out.trans ((only_iset2 V (B + 1 + 1) (.int .u64 0) (.int .u64 0)).below (by omega)))
    clear hst
    go_wp2
    refine bodyPost_ret (v := .tuple #[.agg #[.int .u64 0, .int .u64 0], .bool false]) (by simp [results, Tryz.results37, go_sem, z0, z1]) rfl ⟨rfl, ?_⟩
    show Below _ _ _
    rw [HBe.out]
    exact HF.out
end Go.Proofs.YtecaaklbhhjcjaaGreatDoor
