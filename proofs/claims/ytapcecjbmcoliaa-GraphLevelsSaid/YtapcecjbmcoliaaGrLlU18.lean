import Derived.Test.YtapcecjbmcoliaaGrLlU9
import Derived.Test.YtapcecjbmcoliaaGrLlU5
namespace Go.Proofs.Ytapcecjbmcoliaa
open Go Go.RowKit

/-- the slice reads as this matrix -/
structure Nss (w : World) (ao : Option Addr) (n cap : Nat) (M : List (List Int)) : Prop where
  len : M.length = n
  cap : n ≤ cap
  rows : 0 < n → ∃ b off, ao = some ⟨b, off, none⟩ ∧ ∀ i, i < n → ∃ ri ci, w.cell? ⟨b, off + i, none⟩ = some (.slice ri (M.getD i []).length ci) ∧ Ns w ri (M.getD i []).length ci (M.getD i [])
theorem Nss.below {w w' : World} {ao : Option Addr} {n cap : Nat} {M : List (List Int)} (h : Nss w ao n cap M) (hb : Ext w w') : Nss w' ao n cap M :=
  ⟨h.len, h.cap, fun h0 => by
    obtain ⟨b, off, e, hc⟩ := h.rows h0
    refine ⟨b, off, e, fun i hi => ?_⟩
    obtain ⟨ri, ci, h1, h2⟩ := hc i hi
    exact ⟨ri, ci, (hb.cell (lt_of_cell h1)).trans h1, h2.below hb⟩⟩
theorem Try.infoRowI : (Try.prog.info? 22).map (fun i => (i.zero, i.size, i.bytes)) = some (some (.slice none 0 0), 1, 24) := by kernel_rfl
set_option maxRecDepth 100000 in
theorem make_ints (n : Nat) (hn : n ≤ 1000000) : ∃ O, (∀ w, (Instr.makeSlice 22 (.int .i64 (n : Int)) (.int .i64 (n : Int))).run Try.prog w = .ok (.slice (some ⟨w.heap.size, 0, none⟩) n n) (w.alloc O)) ∧ ∀ w : World, VBlk (w.alloc O) w.heap.size (List.replicate n (Value.int .i64 0)).toArray 3 := by
  obtain ⟨i0, hi, hz0, hz1, hz2⟩ := info_parts Try.infoInt
  have h := fun w => run_make (P := Try.prog) w 22 3 i0 (.int .i64 0) Try.underlying22 hi hz0 .i64 .i64 (n : Int) (n : Int) (by omega) (by omega) (by rw [hz2]; omega) (by omega)
  simp only [Int.toNat_natCast] at h
  refine ⟨_, h, fun w => ?_⟩
  unfold VBlk
  rw [heap_alloc_new, hz1, Nat.mul_one]
  congr 2
  apply Array.ext'
  show (madeCells #[Value.int .i64 0] _).toList = _
  rw [toList_madeCells_one]
end Go.Proofs.Ytapcecjbmcoliaa
