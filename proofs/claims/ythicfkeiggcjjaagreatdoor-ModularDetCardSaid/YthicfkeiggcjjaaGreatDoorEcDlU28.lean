import Derived.Test.YthicfkeiggcjjaaGreatDoorEcDlU23
import Derived.Test.YthicfkeiggcjjaaGreatDoorEcDlU15
namespace Go.Proofs.YthicfkeiggcjjaaGreatDoor
open Go Go.RowKit

/-- the slice reads as this matrix -/
structure Nss (w : World) (ao : Option Addr) (n cap : Nat) (M : List (List Int)) : Prop where
  len : M.length = n
  cap : n ≤ cap
  rows : 0 < n → ∃ b off, ao = some ⟨b, off, none⟩ ∧ ∀ i, i < n → ∃ ri ci, w.cell? ⟨b, off + i, none⟩ = some (.slice ri (M.getD i []).length ci) ∧ Ns w ri (M.getD i []).length ci (M.getD i [])
theorem Nss.below {w w' : World} {ao : Option Addr} {n cap : Nat} {M : List (List Int)} (h : Nss w ao n cap M) (hb : Ext w w') : Nss w' ao n cap M :=
  ⟨h.len, h.cap, fun h0 => by
    obtain ⟨b, off, e, hc⟩ := h.rows h0
    refine ⟨b, off, e, fun i hi => ?_⟩
    obtain ⟨ri, ci, h1, h2⟩ := hc i hi
    exact ⟨ri, ci, (hb.cell (lt_of_cell h1)).trans h1, h2.below hb⟩⟩
/-- the number of columns -/
def widthM (M : List (List Int)) : Nat := (M.getD 0 []).length

set_option maxRecDepth 100000 in
theorem width_any (ao : Option Addr) (n cap : Nat) (M : List (List Int)) (w : World) (h : Nss w ao n cap M) :
    Calls Tryz.prog 34 #[.slice ao n cap] w fun e w' => e = .returned (.int .i64 (widthM M : Nat)) ∧ w = w' := by
  by_cases h0 : n = 0
  · have hm : widthM M = 0 := by
      have := h.len
      rw [h0] at this
      rw [List.eq_nil_of_length_eq_zero this]; rfl
    rw [hm]
    subst h0
    clear hm h
    go_enter Tryz.func34, Tryz.ntmps34
    go_wp2
    go_ret
    exact ⟨rfl, rfl⟩
  · obtain ⟨b, off, rfl, hc⟩ := h.rows (by omega)
    obtain ⟨ri, ci, h1, h2⟩ := hc 0 (by omega)
    obtain ⟨k, hk⟩ : ∃ k, (M.getD 0 []).length = k := ⟨_, rfl⟩
    have hw : widthM M = k := hk
    rw [hw]
    rw [hk, Nat.add_zero] at h1
    have h0i : ((n : Int) == 0) = false := by apply beq_eq_false_iff_ne.2; omega
    have hpos : (0 : Int) < (n : Int) := by omega
    clear h2 hc h hw hk
    go_enter Tryz.func34, Tryz.ntmps34
    go_wp2
    go_ret
    exact ⟨rfl, rfl⟩

theorem Tryz.infoRowI : (Tryz.prog.info? 23).map (fun i => (i.zero, i.size, i.bytes)) = some (some (.slice none 0 0), 1, 24) := by kernel_rfl
set_option maxRecDepth 100000 in
theorem make_ints (n : Nat) (hn : n ≤ 1000000) : ∃ O, (∀ w, (Instr.makeSlice 23 (.int .i64 (n : Int)) (.int .i64 (n : Int))).run Tryz.prog w = .ok (.slice (some ⟨w.heap.size, 0, none⟩) n n) (w.alloc O)) ∧ ∀ w : World, VBlk (w.alloc O) w.heap.size (List.replicate n (Value.int .i64 0)).toArray 3 := by
  obtain ⟨i0, hi, hz0, hz1, hz2⟩ := info_parts Tryz.infoInt
  have h := fun w => run_make (P := Tryz.prog) w 23 3 i0 (.int .i64 0) Tryz.underlying23 hi hz0 .i64 .i64 (n : Int) (n : Int) (by omega) (by omega) (by rw [hz2]; omega) (by omega)
  simp only [Int.toNat_natCast] at h
  refine ⟨_, h, fun w => ?_⟩
  unfold VBlk
  rw [heap_alloc_new, hz1, Nat.mul_one]
  congr 2
  apply Array.ext'
  show (madeCells #[Value.int .i64 0] _).toList = _
  rw [toList_madeCells_one]
set_option maxRecDepth 100000 in
theorem make_rows (n : Nat) (hn : n ≤ 1000000) : ∃ O, (∀ w, (Instr.makeSlice 22 (.int .i64 (n : Int)) (.int .i64 (n : Int))).run Tryz.prog w = .ok (.slice (some ⟨w.heap.size, 0, none⟩) n n) (w.alloc O)) ∧ ∀ w : World, VBlk (w.alloc O) w.heap.size (List.replicate n (Value.slice none 0 0)).toArray 23 := by
  obtain ⟨i0, hi, hz0, hz1, hz2⟩ := info_parts Tryz.infoRowI
  have h := fun w => run_make (P := Tryz.prog) w 22 23 i0 (.slice none 0 0) Tryz.underlying22 hi hz0 .i64 .i64 (n : Int) (n : Int) (by omega) (by omega) (by rw [hz2]; omega) (by omega)
  simp only [Int.toNat_natCast] at h
  refine ⟨_, h, fun w => ?_⟩
  unfold VBlk
  rw [heap_alloc_new, hz1, Nat.mul_one]
  congr 2
  apply Array.ext'
  show (madeCells #[Value.slice none 0 0] _).toList = _
  rw [toList_madeCells_one]
end Go.Proofs.YthicfkeiggcjjaaGreatDoor
