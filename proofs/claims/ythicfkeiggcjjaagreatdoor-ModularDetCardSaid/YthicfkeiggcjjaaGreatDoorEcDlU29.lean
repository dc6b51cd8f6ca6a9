import Derived.Test.YthicfkeiggcjjaaGreatDoorEcDlU28
import Derived.Test.YthicfkeiggcjjaaGreatDoorEcDlU24
import Derived.Deep.RegionWith
namespace Go.Proofs.YthicfkeiggcjjaaGreatDoor
open Go Go.RowKit

def resRow (p : Int) (l : List Int) : List Int := l.map (· % p)
def resM (p : Int) (M : List (List Int)) : List (List Int) := M.map (resRow p)
/-- the block g holds these ints and no more -/
def RowX (w : World) (g : Nat) (l : List Int) : Prop := VBlk w g (l.map (Value.int .i64 ·)).toArray 3
theorem RowX.rowB {w : World} {g : Nat} {l : List Int} (h : RowX w g l) : RowB w g l := ⟨[], by rw [List.append_nil]; exact h⟩
theorem RowX.c {w : World} {g : Nat} {l : List Int} (h : RowX w g l) {j : Nat} (hj : j < l.length) : w.cell? ⟨g, j, none⟩ = some (.int .i64 (l.getD j 0)) := h.rowB.c hj
theorem RowX.f {w : World} {g : Nat} {l : List Int} (h : RowX w g l) (o : Nat) : w.frozen? ⟨g, o, none⟩ = false := h.rowB.f o
theorem RowX.lt {w : World} {g : Nat} {l : List Int} (h : RowX w g l) : g < w.heap.size := h.rowB.lt
theorem RowX.only {w w' : World} {g k : Nat} {l : List Int} (h : RowX w g l) (ho : Only k w w') (hne : g ≠ k) : RowX w' g l := VBlk.only h ho hne
theorem RowX.below {w w' : World} {g : Nat} {l : List Int} (h : RowX w g l) (hb : Below w.heap.size w w') : RowX w' g l := VBlk.below h hb
theorem RowX.set {w : World} {g : Nat} {l : List Int} (h : RowX w g l) {j : Nat} (_hj : j < l.length) (x : Int) : RowX (w.setCell ⟨g, j, none⟩ (.int .i64 x)) g (l.set j x) := by
  have := VBlk.set h j (.int .i64 x)
  have e : (l.map (Value.int .i64 ·)).toArray.setIfInBounds j (.int .i64 x) = ((l.set j x).map (Value.int .i64 ·)).toArray := by
    rw [List.setIfInBounds_toArray, List.map_set]
  rwa [e] at this
/-- the first rows are there, the others are not made -/
structure PMat (w : World) (b n : Nat) (rs : List (Nat × Nat)) (c : Nat) (M : List (List Int)) : Prop where
  rows : VBlk w b ((rs.map fun g => Value.slice (some ⟨g.1, 0, none⟩) c g.2) ++ List.replicate (n - rs.length) (Value.slice none 0 0)).toArray 23
  len : M.length = rs.length
  row : ∀ i, i < rs.length → RowX w (rs.getD i (0, 0)).1 (M.getD i []) ∧ (M.getD i []).length = c
  ne : ∀ i j, i < rs.length → j < rs.length → (rs.getD i (0, 0)).1 = (rs.getD j (0, 0)).1 → i = j
  nb : ∀ i, i < rs.length → (rs.getD i (0, 0)).1 ≠ b
theorem PMat.full {w : World} {b n : Nat} {rs : List (Nat × Nat)} {c : Nat} {M : List (List Int)} (h : PMat w b n rs c M) (hl : rs.length = n) : Mat w b rs c M := by
  refine ⟨?_, h.len, fun i hi => ⟨(h.row i hi).1.rowB, (h.row i hi).2⟩, h.ne, h.nb⟩
  have := h.rows
  rw [hl, Nat.sub_self, List.replicate_zero] at this
  exact ⟨[], this⟩
theorem getD_app {α : Type} {l : List α} {a d : α} {i : Nat} (h : i < l.length) : (l ++ [a]).getD i d = l.getD i d := by simp [List.getD, List.getElem?_append_left h]
theorem getD_end {α : Type} {l : List α} {a d : α} : (l ++ [a]).getD l.length d = a := by simp [List.getD]
/-- a new row -/
theorem PMat.push {w : World} {b n : Nat} {rs : List (Nat × Nat)} {c : Nat} {M : List (List Int)} (h : PMat w b n rs c M) (hl : rs.length < n) (O : Obj) {l : List Int} (hO : ∀ w : World, RowX (w.alloc O) w.heap.size l) (hlc : l.length = c) (k : Nat) :
    PMat ((w.alloc O).setCell ⟨b, rs.length, none⟩ (.slice (some ⟨w.heap.size, 0, none⟩) c k)) b n (rs ++ [(w.heap.size, k)]) c (M ++ [l]) := by
  have hE : Ext w (w.alloc O) := (Below.refl _ _).alloc (Nat.le_refl _) O
  have hbl := h.rows.lt
  have ho := only_set1 (w.alloc O) b rs.length (.slice (some ⟨w.heap.size, 0, none⟩) c k)
  have hlen : (rs ++ [(w.heap.size, k)]).length = rs.length + 1 := by simp
  have hlt : ∀ i, i < rs.length → (rs.getD i (0, 0)).1 < w.heap.size := fun i hi => (h.row i hi).1.lt
  refine ⟨?_, by rw [hlen, List.length_append, h.len]; rfl, fun i hi => ?_, fun i j hi hj e => ?_, fun i hi => ?_⟩
  · have hv := (h.rows.below hE).set rs.length (.slice (some ⟨w.heap.size, 0, none⟩) c k)
    have e : ((rs.map fun g => Value.slice (some ⟨g.1, 0, none⟩) c g.2) ++ List.replicate (n - rs.length) (Value.slice none 0 0)).toArray.setIfInBounds rs.length (.slice (some ⟨w.heap.size, 0, none⟩) c k) = (((rs ++ [(w.heap.size, k)]).map fun g => Value.slice (some ⟨g.1, 0, none⟩) c g.2) ++ List.replicate (n - (rs ++ [(w.heap.size, k)]).length) (Value.slice none 0 0)).toArray := by
      rw [List.setIfInBounds_toArray, hlen, show n - rs.length = (n - (rs.length + 1)) + 1 by omega, List.replicate_succ]
      congr 1
      rw [List.set_append_right (h := by simp)]
      simp
    rwa [e] at hv
  · rw [hlen] at hi
    by_cases hi2 : i < rs.length
    · rw [getD_app hi2, getD_app (by rw [h.len]; exact hi2)]
      exact ⟨((h.row i hi2).1.below hE).only ho (h.nb i hi2), (h.row i hi2).2⟩
    · obtain rfl : rs.length = i := by omega
      have e1 : (rs ++ [(w.heap.size, k)]).getD rs.length (0, 0) = (w.heap.size, k) := getD_end
      have e2 : (M ++ [l]).getD rs.length [] = l := by rw [← h.len]; exact getD_end
      rw [e1, e2]
      exact ⟨(hO w).only ho (show w.heap.size ≠ b by omega), hlc⟩
  · rw [hlen] at hi hj
    by_cases hi2 : i < rs.length
    · rw [getD_app hi2] at e
      by_cases hj2 : j < rs.length
      · rw [getD_app hj2] at e
        exact h.ne i j hi2 hj2 e
      · obtain rfl : rs.length = j := by omega
        rw [getD_end] at e
        have := hlt i hi2
        simp only at e
        omega
    · obtain rfl : rs.length = i := by omega
      rw [getD_end] at e
      by_cases hj2 : j < rs.length
      · rw [getD_app hj2] at e
        have := hlt j hj2
        simp only at e
        omega
      · omega
  · rw [hlen] at hi
    by_cases hi2 : i < rs.length
    · rw [getD_app hi2]; exact h.nb i hi2
    · obtain rfl : rs.length = i := by omega
      rw [getD_end]
      simp only
      omega
/-- an element of the last row is stored -/
theorem PMat.put {w : World} {b n : Nat} {rs : List (Nat × Nat)} {c : Nat} {M : List (List Int)} (h : PMat w b n rs c M) {i j : Nat} (hi : i < rs.length) (hj : j < c) (x : Int) :
    PMat (w.setCell ⟨(rs.getD i (0, 0)).1, j, none⟩ (.int .i64 x)) b n rs c (M.set i ((M.getD i []).set j x)) := by
  have ho := only_set1 w (rs.getD i (0, 0)).1 j (.int .i64 x)
  refine ⟨h.rows.only ho (Ne.symm (h.nb i hi)), by rw [List.length_set]; exact h.len, fun k hk => ?_, h.ne, h.nb⟩
  have hm : i < M.length := by rw [h.len]; exact hi
  by_cases hki : k = i
  · subst hki
    rw [set_at hm, List.length_set]
    exact ⟨(h.row k hk).1.set (by rw [(h.row k hk).2]; exact hj) x, (h.row k hk).2⟩
  · rw [set_off (Ne.symm hki)]
    exact ⟨(h.row k hk).1.only ho (fun e => hki (h.ne k i hk hi e)), (h.row k hk).2⟩
theorem PMat.slice {w : World} {b n : Nat} {rs : List (Nat × Nat)} {c : Nat} {M : List (List Int)} (h : PMat w b n rs c M) {i : Nat} (hi : i < rs.length) : w.cell? ⟨b, i, none⟩ = some (.slice (some ⟨(rs.getD i (0, 0)).1, 0, none⟩) c (rs.getD i (0, 0)).2) := by
  rw [h.rows.c i]
  simp [List.getD, hi, List.getElem?_append_left]
theorem PMat.drew {w : World} {b n : Nat} {rs : List (Nat × Nat)} {c : Nat} {M : List (List Int)} (h : PMat w b n rs c M) : PMat w.drew b n rs c M :=
  ⟨h.rows, h.len, fun i hi => ⟨(h.row i hi).1.below (Below.refl _ _).drew, (h.row i hi).2⟩, h.ne, h.nb⟩
theorem set_end {α : Type} {l : List α} {a b : α} : (l ++ [a]).set l.length b = l ++ [b] := by rw [List.set_append_right (h := Nat.le_refl _)]; simp
theorem resM_take {p : Int} {M : List (List Int)} {i : Nat} (h : i < M.length) : (resM p M).take (i + 1) = (resM p M).take i ++ [resRow p (M.getD i [])] := by
  rw [List.take_add_one]
  simp [resM, List.getD, h]
theorem resRow_mix {p : Int} {l : List Int} {c : Nat} (h : l.length = c) : mixL (fun x => l.getD x 0 % p) (List.replicate c 0) 0 c = resRow p l := by
  have := mix_all (fun x => l.getD x 0 % p) (List.replicate c (0 : Int)) 0
  rw [List.length_replicate] at this
  rw [this]
  refine list_same 0 (by simp [resRow, h]) fun x hx => ?_
  have hxc : x < c := by simpa using hx
  simp [resRow, List.getD, hxc, h]
/-- rows in blocks that hold them and no more -/
structure MatX (w : World) (b : Nat) (rs : List (Nat × Nat)) (c : Nat) (M : List (List Int)) : Prop where
  rows : VBlk w b (rs.map fun g => Value.slice (some ⟨g.1, 0, none⟩) c g.2).toArray 23
  row : ∀ i, i < rs.length → RowX w (rs.getD i (0, 0)).1 (M.getD i [])
theorem PMat.fullX {w : World} {b n : Nat} {rs : List (Nat × Nat)} {c : Nat} {M : List (List Int)} (h : PMat w b n rs c M) (hl : rs.length = n) : MatX w b rs c M := by
  refine ⟨?_, fun i hi => (h.row i hi).1⟩
  have := h.rows
  rwa [hl, Nat.sub_self, List.replicate_zero, List.append_nil] at this
theorem rowX_zeros {O : Obj} {n : Nat} (h : ∀ w : World, VBlk (w.alloc O) w.heap.size (List.replicate n (Value.int .i64 0)).toArray 3) (w : World) : RowX (w.alloc O) w.heap.size (List.replicate n 0) := by
  have := h w
  unfold RowX
  rwa [List.map_replicate]
set_option maxRecDepth 100000 in
set_option maxHeartbeats 8000000 in
theorem residues_x (ao : Option Addr) (n cap c : Nat) (M : List (List Int)) (p : Int) (w : World) (hm : Nss w ao n cap M) (hT : Table64 w) (hp : mr p = true) (hrow : ∀ i, i < n → (M.getD i []).length = c) (hw : widthM M = c) (hn : n ≤ 200) (hc : c ≤ 200) :
    Calls Tryz.prog 32 #[.slice ao n cap, .int .i64 p] w fun r w' => ∃ b rs, r = .returned (.tuple #[.slice (some ⟨b, 0, none⟩) n n, .int .i64 0]) ∧ Mat w' b rs c (resM p M) ∧ rs.length = n ∧ (∀ i, i < rs.length → c ≤ (rs.getD i (0, 0)).2 ∧ w.heap.size ≤ (rs.getD i (0, 0)).1) ∧ w.heap.size ≤ b ∧ Ext w w' ∧ MatX w' b rs c (resM p M) ∧ ∀ i, i < n → (rs.getD i (0, 0)).2 = c := by
  have CI := Lib.hid (isPrime_any p w hT)
  rw [hp] at CI
  have CW := Lib.hid (width_any ao n cap M w hm)
  rw [hw] at CW
  have HM := Lib.hid hm
  have HROW := Lib.hid hrow
  have HML := Lib.hid hm.len
  obtain ⟨p2, p3⟩ := mr_bounds hp
  obtain ⟨OR, hmr, hvr⟩ := make_rows n (by omega)
  obtain ⟨OI, hmi, hvi⟩ := make_ints c (by omega)
  have HVR := Lib.hid hvr
  have HVI := Lib.hid (rowX_zeros hvi)
  clear hm hT hp hrow hw hvr hvi
  go_enter Tryz.func32, Tryz.ntmps32
  go_wp2_with fail
  refine CI.out.mono ?_
  rintro e w1 ⟨rfl, rfl⟩
  go_wp2_with fail
  refine CW.out.mono ?_
  rintro e w1 ⟨rfl, rfl⟩
  clear CI CW
  go_wp2
  go_loopw [7, 18] (fun _ iv wr => ∃ i : Nat, i ≤ n ∧ iv = .int .i64 (i : Int) ∧ w = wr) (fun _ iv _ => n - (intOf iv).toNat)
  case atStart => exact ⟨0, Nat.zero_le _, rfl, rfl⟩
  case round =>
    obtain ⟨i, hi, rfl, rfl⟩ := hrel
    by_cases hlt : i < n
    · obtain ⟨a, off, rfl, hc1⟩ := HM.out.rows (by omega)
      obtain ⟨ri, ci, h1, h2⟩ := hc1 i hlt
      rw [HROW.out i hlt] at h1
      have hii : (i : Int) < (n : Int) := by omega
      clear hc1 h2
      go_wp2
      go_roundw
      case rel => exact ⟨i + 1, by omega, by go_num, trivial⟩
      case measure => simp [intOf]; omega
    · obtain rfl : n = i := by omega
      have hni : ¬ (200 : Int) < (n : Int) := by omega
      have hci : ¬ (200 : Int) < (c : Int) := by omega
      go_upto_block 2 with fail
      obtain ⟨b, hb⟩ : ∃ b, w.heap.size = b := ⟨_, rfl⟩
      have HP0 := Lib.hid (show PMat (w.alloc OR) b n [] c [] from ⟨by
        have := HVR.out w
        rw [hb] at this
        simpa using this, rfl, fun i hi => absurd hi (Nat.not_lt_zero _), fun i j hi => absurd hi (Nat.not_lt_zero _), fun i hi => absurd hi (Nat.not_lt_zero _)⟩)
      have HE0 := Lib.hid (show Ext w (w.alloc OR) from (Below.refl _ _).alloc (Nat.le_refl _) _)
      have HBW := Lib.hid hb
      rw [hb]
      clear hb HVR hmr
      generalize w.alloc OR = V0 at *
      go_wp2
      go_loopw [9, 10, 41] (fun _ _ iv wr => ∃ (i : Nat) (rs : List (Nat × Nat)), i ≤ n ∧ iv = .int .i64 (i : Int) ∧ rs.length = i ∧ PMat wr b n rs c ((resM p M).take i) ∧ Hid (∀ k, k < rs.length → (rs.getD k (0, 0)).2 = c ∧ w.heap.size ≤ (rs.getD k (0, 0)).1) ∧ Ext w wr)
        (fun _ _ iv _ => n - (intOf iv).toNat)
      case atStart => exact ⟨0, [], Nat.zero_le _, rfl, rfl, by rw [List.take_zero]; exact HP0.out, Lib.hid (fun k hk => absurd hk (Nat.not_lt_zero _)), HE0.out⟩
      case round =>
        clear HP0 HE0
        obtain ⟨i, rs, hi, rfl, hrl, hP, HRS, hEw⟩ := hrel
        have HEW := Lib.hid hEw
        by_cases hlt : i < n
        · obtain ⟨a, off, rfl, hc1⟩ := HM.out.rows (by omega)
          obtain ⟨ri, ci, h1, h2⟩ := hc1 i hlt
          rw [HROW.out i hlt] at h1 h2
          have HNS := Lib.hid h2
          have HA := Lib.hid h1
          have hii : (i : Int) < (n : Int) := by omega
          have hrn : rs.length < n := by omega
          have hpush := hP.push hrn OI HVI.out (l := List.replicate c 0) (by simp) c
          have hEa : Ext wr (wr.alloc OI) := (Below.refl _ _).alloc (Nat.le_refl _) _
          have q0 := (hP.rows.below hEa).c i
          have q1 := (hP.rows.below hEa).f i
          have e0 : ((rs.map fun g => Value.slice (some ⟨g.1, 0, none⟩) c g.2) ++ List.replicate (n - rs.length) (Value.slice none 0 0)).toArray[i]? = some (Value.slice none 0 0) := by
            simp [hrl, show i < i + (n - i) by omega]
          rw [e0] at q0
          have ho := only_set1 (wr.alloc OI) b rs.length (.slice (some ⟨wr.heap.size, 0, none⟩) c c)
          have HEP := Lib.hid (show Ext w ((wr.alloc OI).setCell ⟨b, i, none⟩ (.slice (some ⟨wr.heap.size, 0, none⟩) c c)) from by
            rw [← hrl]
            exact Below.trans (hEw.trans hEa) (ho.below (by have := HBW.out; omega)))
          have HG := Lib.hid (show w.heap.size ≤ wr.heap.size from Below.size hEw)
          obtain ⟨g, hg⟩ : ∃ g, wr.heap.size = g := ⟨_, rfl⟩
          rw [hrl] at hpush
          rw [hg] at hpush HEP HG
          have HPU := Lib.hid hpush
          have HRL := Lib.hid hrl
          have HGW := Lib.hid hg
          clear hc1 h2 h1 hpush hEa e0 ho hP hEw hrn hrl
          go_wp2
          clear q0 q1
          go_loopw [10, 50] (fun _ xv wx => ∃ x : Nat, x ≤ c ∧ xv = .int .i64 (x : Int) ∧ PMat wx b n (rs ++ [(g, c)]) c ((resM p M).take i ++ [mixL (fun x => (M.getD i []).getD x 0 % p) (List.replicate c 0) 0 x]) ∧ Ext w wx)
            (fun _ xv _ => c - (intOf xv).toNat)
          case atStart => exact ⟨0, Nat.zero_le _, rfl, by rw [mix_zero]; exact HPU.out, HEP.out⟩
          case round =>
            clear HPU HEP
            obtain ⟨x, hx, rfl, hP, hEx⟩ := hrel
            have HEX := Lib.hid hEx
            have htl : ((resM p M).take i).length = i := by rw [List.length_take]; simp [resM, HML.out]; omega
            by_cases hxl : x < c
            · obtain ⟨bi, oi, rfl, hcell⟩ := HNS.out.cells (by omega)
              have c1 := (hEx.cell (lt_of_cell (hcell x hxl))).trans (hcell x hxl)
              have c2 := (hEx.cell (lt_of_cell HA.out)).trans HA.out
              have hilt : i < (rs ++ [(g, c)]).length := by simp [HRL.out]
              have hge : (rs ++ [(g, c)]).getD i (0, 0) = (g, c) := by rw [← HRL.out]; exact getD_end
              have k0 := hP.slice hilt
              have hrow := hP.row i hilt
              have hle : ((resM p M).take i ++ [mixL (fun x => (M.getD i []).getD x 0 % p) (List.replicate c 0) 0 x]).getD i [] = mixL (fun x => (M.getD i []).getD x 0 % p) (List.replicate c 0) 0 x := by
                conv => lhs; rw [show i = ((resM p M).take i).length from htl.symm]
                rw [htl]
                exact (by conv => lhs; arg 2; rw [← htl]
                          exact getD_end)
              have hput := hP.put hilt hxl ((M.getD i []).getD x 0 % p)
              rw [hle] at hrow hput
              rw [hge] at k0 hrow hput
              have hms := mix_set (fun x => (M.getD i []).getD x 0 % p) (List.replicate c (0 : Int)) 0 (j := x) (by simpa using hxl)
              have hse : ((resM p M).take i ++ [mixL (fun x => (M.getD i []).getD x 0 % p) (List.replicate c 0) 0 x]).set i (mixL (fun x => (M.getD i []).getD x 0 % p) (List.replicate c 0) 0 (x + 1)) = (resM p M).take i ++ [mixL (fun x => (M.getD i []).getD x 0 % p) (List.replicate c 0) 0 (x + 1)] := by
                have := set_end (l := (resM p M).take i) (a := mixL (fun x => (M.getD i []).getD x 0 % p) (List.replicate c 0) 0 x) (b := mixL (fun x => (M.getD i []).getD x 0 % p) (List.replicate c 0) 0 (x + 1))
                rwa [htl] at this
              rw [show (mixL (fun x => (M.getD i []).getD x 0 % p) (List.replicate c 0) 0 x).set x ((M.getD i []).getD x 0 % p) = mixL (fun x => (M.getD i []).getD x 0 % p) (List.replicate c 0) 0 (x + 1) from hms, hse] at hput
              have q0 := hrow.1.c (j := x) (by rw [hrow.2]; exact hxl)
              have q1 := hrow.1.f x
              obtain ⟨v0, hv0⟩ : ∃ v0, (mixL (fun x => (M.getD i []).getD x 0 % p) (List.replicate c 0) 0 x).getD x 0 = v0 := ⟨_, rfl⟩
              obtain ⟨v, hv⟩ : ∃ v, (M.getD i []).getD x 0 = v := ⟨_, rfl⟩
              obtain ⟨y, hy⟩ : ∃ y, v % p = y := ⟨_, rfl⟩
              rw [hv0] at q0
              rw [hv] at c1 hput
              rw [hy] at hput
              have CRS := Lib.hid (fun wx => residue_any v p wx (by omega) (by omega))
              rw [hy] at CRS
              have ho := only_set1 wr g x (.int .i64 y)
              have HEN := Lib.hid (show Ext w (wr.setCell ⟨g, x, none⟩ (.int .i64 y)) from Below.trans hEx (ho.below HG.out))
              have HPN := Lib.hid hput
              have hxi : (x : Int) < (c : Int) := by omega
              have hni : (i : Int) < (n : Int) := by omega
              clear hms hse hv0 hv hy hput hrow hle hge hilt htl ho hP hEx hcell
              go_upto_region 20 with fail
              first | (go_region_with (first | (go_at_call 38; refine (CRS.out _).mono ?_; rintro e w9 ⟨rfl, rfl⟩))) | fail "r20"
              all_goals
                go_wp2
                go_roundw
              any_goals (simp [intOf]; omega)
              all_goals exact ⟨x + 1, by omega, by go_num, by repeat (first | exact HPN.out | refine PMat.drew ?_), by repeat (first | exact HEN.out | refine Below.drew ?_)⟩
            · obtain rfl : c = x := by omega
              have htk := resM_take (p := p) (M := M) (i := i) (by rw [HML.out]; exact hlt)
              have hmx := resRow_mix (p := p) (HROW.out i hlt)
              have HFP := Lib.hid (show PMat wr b n (rs ++ [(g, c)]) c ((resM p M).take (i + 1)) by rw [htk, ← hmx]; exact hP)
              have HRS2 := Lib.hid (show ∀ k, k < (rs ++ [(g, c)]).length → ((rs ++ [(g, c)]).getD k (0, 0)).2 = c ∧ w.heap.size ≤ ((rs ++ [(g, c)]).getD k (0, 0)).1 from fun k hk => by
                by_cases hk2 : k < rs.length
                · rw [getD_app hk2]; exact HRS.out k hk2
                · have hkr : k = rs.length := by simp at hk; omega
                  rw [hkr, getD_end]
                  exact ⟨rfl, HG.out⟩)
              have HLN := Lib.hid (show (rs ++ [(g, c)]).length = i + 1 by simp [HRL.out])
              clear htk hmx hP hEx htl
              go_wp2
              go_roundw
              case rel => exact ⟨i + 1, rs ++ [(g, c)], by omega, by go_num, HLN.out, HFP.out, HRS2, HEX.out⟩
              case measure => simp [intOf]; omega
        · obtain rfl : n = i := by omega
          have HFIN := Lib.hid (And.intro (show Mat wr b rs c (resM p M) from by
            have := hP.full hrl
            rwa [List.take_of_length_le (by simp [resM, HML.out])] at this) (And.intro hrl (And.intro (show ∀ k, k < rs.length → c ≤ (rs.getD k (0, 0)).2 ∧ w.heap.size ≤ (rs.getD k (0, 0)).1 from fun k hk => ⟨Nat.le_of_eq (HRS.out k hk).1.symm, (HRS.out k hk).2⟩) (And.intro (show MatX wr b rs c (resM p M) from by
            have := hP.fullX hrl
            rwa [List.take_of_length_le (by simp [resM, HML.out])] at this) (show ∀ k, k < n → (rs.getD k (0, 0)).2 = c from fun k hk => (HRS.out k (by omega)).1)))))
          clear hP hrl hEw
          go_wp2
          refine bodyPost_ret (v := .tuple #[.slice (some ⟨b, 0, none⟩) n n, .int .i64 0]) (by simp [results, Tryz.results32, go_sem]) rfl ⟨b, rs, rfl, HFIN.out.1, HFIN.out.2.1, HFIN.out.2.2.1, by have := HBW.out; omega, HEW.out, HFIN.out.2.2.2.1, HFIN.out.2.2.2.2⟩
theorem residues_yes (ao : Option Addr) (n cap c : Nat) (M : List (List Int)) (p : Int) (w : World) (hm : Nss w ao n cap M) (hT : Table64 w) (hp : mr p = true) (hrow : ∀ i, i < n → (M.getD i []).length = c) (hw : widthM M = c) (hn : n ≤ 200) (hc : c ≤ 200) :
    Calls Tryz.prog 32 #[.slice ao n cap, .int .i64 p] w fun r w' => ∃ b rs, r = .returned (.tuple #[.slice (some ⟨b, 0, none⟩) n n, .int .i64 0]) ∧ Mat w' b rs c (resM p M) ∧ rs.length = n ∧ (∀ i, i < rs.length → c ≤ (rs.getD i (0, 0)).2 ∧ w.heap.size ≤ (rs.getD i (0, 0)).1) ∧ w.heap.size ≤ b ∧ Ext w w' :=
  (residues_x ao n cap c M p w hm hT hp hrow hw hn hc).mono fun _ _ ⟨b, rs, h1, h2, h3, h4, h5, h6, _⟩ => ⟨b, rs, h1, h2, h3, h4, h5, h6⟩
end Go.Proofs.YthicfkeiggcjjaaGreatDoor
