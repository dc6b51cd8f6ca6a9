/- What interval.least and greatest do. -/
import Derived.Test.YtjohpdobnedilaaDoorCIOps
namespace Go.Proofs.YtjohpdobnedilaaDoor
open Go.RowKit

/-- block g holds these floats, in a block of the call's own -/
def FB (W : World) (g : Nat) (l : List Nat) : Prop := W.heap[g]? = some (.cells (l.map fun (f : Nat) => Value.int .u64 (f : Int)).toArray 23 (0, 0))
theorem FB.cell {W : World} {g : Nat} {l : List Nat} (h : FB W g l) (j : Nat) (hj : j < l.length) : W.cell? ⟨g, j, none⟩ = some (.int .u64 ((l.getD j 0 : Nat) : Int)) := by
  rw [cell_of_row W g j _ _ _ h]
  simp [List.getD, hj]
theorem FB.f {W : World} {g : Nat} {l : List Nat} (h : FB W g l) (o : Nat) : W.frozen? ⟨g, o, none⟩ = false := by
  unfold FB at h; simp [World.frozen?, h]
theorem FB.kept {w w' : World} {g B : Nat} {l : List Nat} (h : FB w g l) (hb : Below B w w') (hg : g < B) : FB w' g l := by
  unfold FB; rw [hb.block g hg]; exact h
theorem FB.lt {w : World} {g : Nat} {l : List Nat} (h : FB w g l) : g < w.heap.size := (Array.getElem?_eq_some_iff.1 h).1
theorem FB.below {w w' : World} {g : Nat} {l : List Nat} (h : FB w g l) (hb : Below w.heap.size w w') : FB w' g l := h.kept hb h.lt

def leastF (l : List Nat) : Nat := l.foldl (fun m f => if lessF f m then f else m) 9218868437227405312
def greatF (l : List Nat) : Nat := l.foldl (fun m f => if lessF m f then f else m) 18442240474082181120
theorem leastF_next (l : List Nat) (j : Nat) (h : j < l.length) : leastF (l.take (j + 1)) = if lessF (l.getD j 0) (leastF (l.take j)) then l.getD j 0 else leastF (l.take j) := by
  unfold leastF
  rw [List.take_succ_eq_append_getElem h, List.foldl_append]
  simp [List.getD, h]
theorem greatF_next (l : List Nat) (j : Nat) (h : j < l.length) : greatF (l.take (j + 1)) = if lessF (greatF (l.take j)) (l.getD j 0) then l.getD j 0 else greatF (l.take j) := by
  unfold greatF
  rw [List.take_succ_eq_append_getElem h, List.foldl_append]
  simp [List.getD, h]
theorem getD_lt {l : List Nat} (hl : ∀ x ∈ l, x < 18446744073709551616) (j : Nat) : l.getD j 0 < 18446744073709551616 := by
  by_cases h : j < l.length
  · simp only [List.getD, List.getElem?_eq_getElem h, Option.getD_some]
    exact hl _ (List.getElem_mem h)
  · simp [List.getD, List.getElem?_eq_none (by omega : l.length ≤ j)]
theorem leastF_lt {l : List Nat} (hl : ∀ x ∈ l, x < 18446744073709551616) : leastF l < 18446744073709551616 := by
  unfold leastF
  have : ∀ (l : List Nat) (m : Nat), m < 18446744073709551616 → (∀ x ∈ l, x < 18446744073709551616) → l.foldl (fun m f => if lessF f m then f else m) m < 18446744073709551616 := by
    intro l
    induction l with
    | nil => intro m hm _; exact hm
    | cons x l ih =>
      intro m hm h
      refine ih _ ?_ (fun y hy => h y (by simp [hy]))
      show (if lessF x m then x else m) < 18446744073709551616
      split
      · exact h x (by simp)
      · exact hm
  exact this l _ (by decide) hl
theorem greatF_lt {l : List Nat} (hl : ∀ x ∈ l, x < 18446744073709551616) : greatF l < 18446744073709551616 := by
  unfold greatF
  have : ∀ (l : List Nat) (m : Nat), m < 18446744073709551616 → (∀ x ∈ l, x < 18446744073709551616) → l.foldl (fun m f => if lessF m f then f else m) m < 18446744073709551616 := by
    intro l
    induction l with
    | nil => intro m hm _; exact hm
    | cons x l ih =>
      intro m hm h
      refine ih _ ?_ (fun y hy => h y (by simp [hy]))
      show (if lessF m x then x else m) < 18446744073709551616
      split
      · exact h x (by simp)
      · exact hm
  exact this l _ (by decide) hl

set_option maxRecDepth 100000 in
set_option maxHeartbeats 2000000 in
theorem least_any (g : Nat) (l : List Nat) (n : Nat) (hn : l.length = n) (hn1 : n ≤ 1000) (hl : ∀ x ∈ l, x < 18446744073709551616) (w : World) (h : FB w g l) :
    Calls Tryd.prog 21 #[.slice (some ⟨g, 0, none⟩) n n] w fun e w' => e = .returned (.int .u64 ((leastF l : Nat) : Int)) ∧ Ext w w' := by
  have HN := Lib.hid hn; clear hn
  have HL := Lib.hid hl; clear hl
  go_enter Tryd.func21, Tryd.ntmps21
  go_wp2
  go_loopw [3, 5, 8] (fun m _ i wr => ∃ j : Nat, j ≤ n ∧ i = .int .i64 (j : Int) ∧ m = .int .u64 ((leastF (l.take j) : Nat) : Int) ∧ Ext w wr) (fun _ _ i _ => n - (intOf i).toNat)
  case atStart => exact ⟨0, Nat.zero_le _, rfl, rfl, Ext.refl w⟩
  case round =>
    obtain ⟨j, hj, rfl, rfl, hE⟩ := hrel
    have hb := h.below hE
    have HE := Lib.hid hE
    by_cases hlt : j < n
    · have hc := hb.cell j (by rw [HN.out]; exact hlt)
      have hnext := leastF_next l j (by rw [HN.out]; exact hlt)
      have hx := getD_lt HL.out j
      have hm := leastF_lt (l := l.take j) (fun x hx => HL.out x (List.mem_of_mem_take hx))
      obtain ⟨x, hxe⟩ : ∃ x, l.getD j 0 = x := ⟨_, rfl⟩
      obtain ⟨m, hme⟩ : ∃ m, leastF (l.take j) = m := ⟨_, rfl⟩
      rw [hxe] at hc hnext hx
      rw [hme] at hnext hm ⊢
      clear hxe hme hE hb
      cases hr : lessF x m with
      | true =>
        have C := Lib.hid (isLess_at x m hx hm rfl rfl true hr)
        rw [hr, if_pos rfl] at hnext
        have HNX := Lib.hid hnext
        clear hnext hr hx hm
        go_wp2_with fail
        refine (C.out _).mono ?_
        rintro r w1 ⟨rfl, hE1⟩
        go_wp2
        go_roundw
        case rel => exact ⟨j + 1, by omega, by go_num, by rw [HNX.out], Ext.trans HE.out hE1⟩
        case measure => simp [intOf] <;> omega
      | false =>
        have C := Lib.hid (isLess_at x m hx hm rfl rfl false hr)
        rw [hr, if_neg (by simp)] at hnext
        have HNX := Lib.hid hnext
        clear hnext hr hx hm
        go_wp2_with fail
        refine (C.out _).mono ?_
        rintro r w1 ⟨rfl, hE1⟩
        go_wp2
        go_roundw
        case rel => exact ⟨j + 1, by omega, by go_num, by rw [HNX.out], Ext.trans HE.out hE1⟩
        case measure => simp [intOf] <;> omega
    · obtain rfl : j = n := by omega
      have HT := Lib.hid (show l.take j = l from List.take_of_length_le (by rw [HN.out]; exact Nat.le_refl _))
      clear hE hb
      go_wp2
      go_ret
      exact ⟨ret_int (by rw [HT.out]), HE.out⟩

set_option maxRecDepth 100000 in
set_option maxHeartbeats 2000000 in
theorem greatest_any (g : Nat) (l : List Nat) (n : Nat) (hn : l.length = n) (hn1 : n ≤ 1000) (hl : ∀ x ∈ l, x < 18446744073709551616) (w : World) (h : FB w g l) :
    Calls Tryd.prog 20 #[.slice (some ⟨g, 0, none⟩) n n] w fun e w' => e = .returned (.int .u64 ((greatF l : Nat) : Int)) ∧ Ext w w' := by
  have HN := Lib.hid hn; clear hn
  have HL := Lib.hid hl; clear hl
  go_enter Tryd.func20, Tryd.ntmps20
  go_wp2
  go_loopw [3, 5, 8] (fun m _ i wr => ∃ j : Nat, j ≤ n ∧ i = .int .i64 (j : Int) ∧ m = .int .u64 ((greatF (l.take j) : Nat) : Int) ∧ Ext w wr) (fun _ _ i _ => n - (intOf i).toNat)
  case atStart => exact ⟨0, Nat.zero_le _, rfl, rfl, Ext.refl w⟩
  case round =>
    obtain ⟨j, hj, rfl, rfl, hE⟩ := hrel
    have hb := h.below hE
    have HE := Lib.hid hE
    by_cases hlt : j < n
    · have hc := hb.cell j (by rw [HN.out]; exact hlt)
      have hnext := greatF_next l j (by rw [HN.out]; exact hlt)
      have hx := getD_lt HL.out j
      have hm := greatF_lt (l := l.take j) (fun x hx => HL.out x (List.mem_of_mem_take hx))
      obtain ⟨x, hxe⟩ : ∃ x, l.getD j 0 = x := ⟨_, rfl⟩
      obtain ⟨m, hme⟩ : ∃ m, greatF (l.take j) = m := ⟨_, rfl⟩
      rw [hxe] at hc hnext hx
      rw [hme] at hnext hm ⊢
      clear hxe hme hE hb
      cases hr : lessF m x with
      | true =>
        have C := Lib.hid (isLess_at m x hm hx rfl rfl true hr)
        rw [hr, if_pos rfl] at hnext
        have HNX := Lib.hid hnext
        clear hnext hr hx hm
        go_wp2_with fail
        refine (C.out _).mono ?_
        rintro r w1 ⟨rfl, hE1⟩
        go_wp2
        go_roundw
        case rel => exact ⟨j + 1, by omega, by go_num, by rw [HNX.out], Ext.trans HE.out hE1⟩
        case measure => simp [intOf] <;> omega
      | false =>
        have C := Lib.hid (isLess_at m x hm hx rfl rfl false hr)
        rw [hr, if_neg (by simp)] at hnext
        have HNX := Lib.hid hnext
        clear hnext hr hx hm
        go_wp2_with fail
        refine (C.out _).mono ?_
        rintro r w1 ⟨rfl, hE1⟩
        go_wp2
        go_roundw
        case rel => exact ⟨j + 1, by omega, by go_num, by rw [HNX.out], Ext.trans HE.out hE1⟩
        case measure => simp [intOf] <;> omega
    · obtain rfl : j = n := by omega
      have HT := Lib.hid (show l.take j = l from List.take_of_length_le (by rw [HN.out]; exact Nat.le_refl _))
      clear hE hb
      go_wp2
      go_ret
      exact ⟨ret_int (by rw [HT.out]), HE.out⟩

end Go.Proofs.YtjohpdobnedilaaDoor
