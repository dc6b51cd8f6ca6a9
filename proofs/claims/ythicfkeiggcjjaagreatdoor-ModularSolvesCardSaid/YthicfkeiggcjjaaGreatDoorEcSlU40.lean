import Derived.Shelf.Strings.BuilderK
import Derived.Test.YthicfkeiggcjjaaGreatDoorProg
import Derived.Test.YthicfkeiggcjjaaGreatDoorEcSlU1
import Derived.RangeFuncNested
import Derived.RangeFuncBound
import Derived.RangeFuncCalls
import Derived.RangeFuncLeaves
import Derived.Shelf.Abstract
import Derived.Shelf.RegionOpen
import Derived.WalkKit
import Derived.OwnWalkIn
import Derived.TacticsInMore
import Derived.LoopNIn
import Derived.LoopIn
import Derived.Test.YthicfkeiggcjjaaGreatDoorEcSlU7
import Derived.Test.YthicfkeiggcjjaaGreatDoorEcSlU3
import Derived.Test.YthicfkeiggcjjaaGreatDoorEcSlU5
import Derived.Test.YthicfkeiggcjjaaGreatDoorEcSlU4
namespace Go.Proofs
open Go.Shelf
def Tryz.lays169_ren : Go.Shelf.Ren := ⟨fun | 169 => 58 | n => n, fun | 70 => 72 | 9 => 9 | 0 => 0 | 72 => 75 | 37 => 73 | 127 => 107 | 3 => 3 | 5 => 5 | n => n, fun | n => n⟩
theorem Tryz.lays169 : Go.Proofs.Lays.n169 Tryz.prog Tryz.lays169_ren := {
  mixed := by kernel_rfl
  f169 := Tryz.func58.trans (congrArg some (by kernel_rfl))
  t0 := Tryz.underlying0
  a0 := Tryz.isAgg0
  z0 := Tryz.sizeOf0
  v0 := Tryz.zeroValue0
  t3 := Tryz.underlying3
  a3 := Tryz.isAgg3
  z3 := Tryz.sizeOf3
  v3 := Tryz.zeroValue3
  t9 := Tryz.underlying9
  a9 := Tryz.isAgg9
  z9 := Tryz.sizeOf9
  v9 := Tryz.zeroValue9
  t37 := Tryz.underlying73
  a37 := Tryz.isAgg73
  z37 := Tryz.sizeOf73
  v37 := Tryz.zeroValue73
  t70 := Tryz.underlying72
  a70 := Tryz.isAgg72
  z70 := Tryz.sizeOf72
  v70 := Tryz.zeroValue72
  t72 := Tryz.underlying75
  a72 := Tryz.isAgg75
  z72 := Tryz.sizeOf75
  v72 := Tryz.zeroValue75
  t127 := Tryz.underlying107
  a127 := Tryz.isAgg107
  z127 := Tryz.sizeOf107
  v127 := Tryz.zeroValue107 }
theorem Tryz.Builder_Extra_169 : Builder.Extra Tryz.prog Tryz.lays169_ren := {
  sizeBuilder := by kernel_rfl
  liesBuilder := by kernel_rfl
  t5 := Tryz.underlying5
  a5 := Tryz.isAgg5
  z5 := Tryz.sizeOf5
  v5 := Tryz.zeroValue5
  infoByte := by kernel_rfl
  cellsByte := by kernel_rfl
  sizeByte := by kernel_rfl
  neB5 := by decide }
open Go.RowKit in
theorem Tryz.Builder_String_any_k (B b : Nat) (l : List UInt8) (w : World) (h : Lib.IsBuilderF 75 5 B b (Lib.byteCells l) w) (hBw : B ≤ w.heap.size) :
    Calls Tryz.prog 58 #[.pointer (some ⟨b, 0, none⟩)] w fun e w' => e = .returned (.string ⟨l.toArray⟩) ∧ (Lib.IsBuilderF 75 5 B b (Lib.byteCells l) w' ∧ Below B w w' ∧ Lib.OthersKept 5 (some b) w w') := Any.Builder_String_any_k Tryz.lays169 Tryz.Builder_Extra_169 B b l w h hBw
end Go.Proofs

namespace Go.Proofs.YthicfkeiggcjjaaGreatDoor
open Go.RowKit

theorem extra : Builder.Extra Tryz.prog Tryz.lays169_ren := Tryz.Builder_Extra_169

set_option maxRecDepth 100000 in
set_option maxHeartbeats 1000000 in
theorem copyCheck_fresh (b : Nat) (w : World) (h0 : w.cell? ⟨b, 0, none⟩ = some (.pointer none)) (hsh : w.shape? b = some (75, 2)) (hfz : w.frozen? ⟨b, 0, none⟩ = false) :
    Calls Tryz.prog 74 #[.pointer (some ⟨b, 0, none⟩)] w fun e w' => e = .returned (.tuple #[]) ∧ w' = w.setCell ⟨b, 0, none⟩ (.pointer (some ⟨b, 0, none⟩)) := by
  obtain ⟨j, hj, hjs⟩ := Option.map_eq_some_iff.1 extra.sizeBuilder
  go_enter Tryz.func74, Tryz.ntmps74
  go_wp2
  rw [Lib.run_to_unsafe w ⟨b, 0, none⟩ Tryz.underlying72 Tryz.underlying114 hj (by rw [hjs]; decide) hsh (Nat.zero_lt_succ 1)]
  simp only [Result.andThen]
  rw [Oper.upon_value]
  go_wp2
  rw [run_callFunc_extern Tryz.func94 (by kernel_rfl) (by kernel_rfl) (by kernel_rfl) (e := Extern.AbiNoEscape.same) (by kernel_rfl)]
  rw [Lib.run_noEscape]
  simp only [Result.andThen]
  rw [Oper.upon_value]
  go_wp2
  rw [Lib.run_from_unsafe w ⟨b, 0, none⟩ Tryz.underlying114 Tryz.underlying72 hj hsh extra.liesBuilder]
  simp only [Result.andThen]
  rw [Oper.upon_value]
  go_wp2
  go_end0
  exact ⟨rfl, rfl⟩

set_option maxRecDepth 100000 in
set_option maxHeartbeats 1000000 in
theorem copyCheck_used (b : Nat) (w : World) (h0 : w.cell? ⟨b, 0, none⟩ = some (.pointer (some ⟨b, 0, none⟩))) :
    Calls Tryz.prog 74 #[.pointer (some ⟨b, 0, none⟩)] w fun e w' => e = .returned (.tuple #[]) ∧ w' = w := by
  obtain ⟨j, hj, _⟩ := Option.map_eq_some_iff.1 extra.sizeBuilder
  go_enter Tryz.func74, Tryz.ntmps74
  go_wp2
  rw [Lib.run_neq_ptr_same w _ Tryz.underlying72 hj]
  go_wp2
  go_end0
  exact ⟨rfl, rfl⟩

/-- the check of a builder that nobody has copied -/
theorem copyCheck_any (B b : Nat) (bs : List Value) (w : World) (h : Lib.IsBuilderF 75 5 B b bs w) :
    Calls Tryz.prog 74 #[.pointer (some ⟨b, 0, none⟩)] w fun e w' => e = .returned (.tuple #[]) ∧ Lib.BuilderAtF 75 5 B b (.pointer (some ⟨b, 0, none⟩)) bs w' ∧ Below B w w' := by
  rcases h with h | h
  · refine (copyCheck_fresh b w h.cell0 h.shape h.frozen0).mono ?_
    rintro e w' ⟨rfl, rfl⟩
    exact ⟨rfl, h.used _, (Below.refl B w).setCell (p := ⟨b, 0, none⟩) h.1 _⟩
  · refine (copyCheck_used b w h.cell0).mono ?_
    rintro e w' ⟨rfl, rfl⟩
    exact ⟨rfl, h, Below.refl B _⟩

theorem frozen_two {w : World} {b : Nat} {u v : Value} {T : TypeId} (h : w.heap[b]? = some (.cells #[u, v] T (0, 0))) (o : Nat) : w.frozen? ⟨b, o, none⟩ = false := by
  simp [World.frozen?, h]
theorem cells_two {w : World} {b : Nat} {u v : Value} {T : TypeId} (h : w.heap[b]? = some (.cells #[u, v] T (0, 0))) : w.cell? ⟨b, 0, none⟩ = some u ∧ w.cell? ⟨b, 1, none⟩ = some v := by
  constructor <;> (rw [cell_of_row w b _ _ _ _ h]; rfl)

set_option maxRecDepth 100000 in
set_option maxHeartbeats 2000000 in
theorem writeByte_any (B b : Nat) (bs : List Value) (c : Int) (w : World) (h : Lib.IsBuilderF 75 5 B b bs w) (hlen : bs.length + 1 ≤ 1000000000) (hBw : B ≤ w.heap.size) :
    Calls Tryz.prog 52 #[.pointer (some ⟨b, 0, none⟩), .int .u8 c] w fun e w' => e = .returned .nilIface ∧ Lib.BuilderAtF 75 5 B b (.pointer (some ⟨b, 0, none⟩)) (bs ++ [.int .u8 c]) w' ∧ Below B w w' := by
  obtain ⟨i0, hi, hz0, hz1, hz2⟩ := info_parts extra.infoByte
  go_enter Tryz.func52, Tryz.ntmps52
  go_wp2_with fail
  refine (copyCheck_any B b bs _ h).mono ?_
  rintro e w1 ⟨rfl, h1, hb1⟩
  obtain ⟨hB, v, hbk, hown, hne⟩ := h1
  obtain ⟨c0, c1⟩ := cells_two hbk
  go_wp2_with (at_builtin; refine wpList_append_ownF _ rfl _ _ 73 rfl B 5 i0 (.int .u8 0) 1 1 Tryz.underlying73 hi hz0 hz1 hz2 rfl (by decide) _ _ _ rfl (hown.alloc _) ⟨w1.heap.size, 0, none⟩ 1 1 [.int .u8 c] rfl rfl ?c1 ?c2 ?c3 ?c4 ?c5 ?_)
  case c1 =>
    intro j u hj
    match j, hj with
    | 0, hj => simp at hj; subst hj; simp [Addr.add]
  case c2 => intro u hu; simp at hu; subst hu; rfl
  case c3 => unfold maxLen; omega
  case c4 => omega
  case c5 => have := hb1.size; simp; omega
  intro v' w2 hown' hgrow _
  have hlt : b < w1.heap.size := (Array.getElem?_eq_some_iff.1 hbk).1
  have hb2 : w2.heap[b]? = some (.cells #[.pointer (some ⟨b, 0, none⟩), v] 75 (0, 0)) := by
    rw [hgrow.block b (by simp; omega) (fun e => hne e.symm)]
    exact (heap_alloc_old w1 _ hlt).trans hbk
  obtain ⟨d0, d1⟩ := cells_two hb2
  have f1 := frozen_two hb2 1
  obtain ⟨ao, n', cap, rfl⟩ : ∃ ao n' cap, v' = .slice ao n' cap := by
    rcases hown'.2 with ⟨hv, _⟩ | ⟨g, cap, cur, fz, hv, _⟩
    · exact ⟨_, _, _, hv⟩
    · exact ⟨_, _, _, hv⟩
  go_wp2
  go_ret
  refine ⟨rfl, ?_, ?_⟩
  · exact Lib.BuilderAtF.put (T := 75) (e := 5) hB hb2 (bs' := bs ++ [.int .u8 c]) (by simpa using hown') extra.neB5
  · have hb1s := hb1.size
    exact ((hb1.alloc (by omega) _).grown hgrow (by simp; omega) (fun k hk => (hown.lt k hk).1)).setCell (p := ⟨b, 1, none⟩) hB _

end Go.Proofs.YthicfkeiggcjjaaGreatDoor

namespace Go.Proofs.YthicfkeiggcjjaaGreatDoor
open Go.RowKit Go.Shelf
attribute [local go_sem] Oper.semAt_some

theorem builder_below {T e : TypeId} {B b : Nat} {p : Value} {bs : List Value} {w w' : World} (h : Lib.BuilderAtF T e B b p bs w) (hb : Below w.heap.size w w') : Lib.BuilderAtF T e B b p bs w' := by
  have hlt := h.lt
  obtain ⟨h1, v, h2, h3, h4⟩ := h
  refine ⟨h1, v, by rw [hb.block b hlt]; exact h2, ?_, h4⟩
  obtain ⟨k1, k2⟩ := h3
  refine ⟨k1, ?_⟩
  rcases k2 with k2 | ⟨g, cap, cur, fz, hv, hBg, hg, r⟩
  · exact .inl k2
  · exact .inr ⟨g, cap, cur, fz, hv, hBg, by rw [hb.block g (Array.getElem?_eq_some_iff.1 hg).1]; exact hg, r⟩

set_option maxRecDepth 100000 in
set_option maxHeartbeats 1000000 in
theorem backward_any (ao : Option Addr) (n cap : Nat) (w : World) :
    Calls Tryz.prog 56 #[.slice ao n cap] w fun e w' => e = .returned (.func (.func 77) #[] #[.pointer (some ⟨w.heap.size, 0, none⟩)]) ∧ w' = w.alloc (.cells #[.slice ao n cap] 50) := by
  go_enter Tryz.func56, Tryz.ntmps56
  go_wp2
  go_ret
  exact ⟨rfl, rfl⟩

end Go.Proofs.YthicfkeiggcjjaaGreatDoor

namespace Go.Proofs.YthicfkeiggcjjaaGreatDoor
open Go Go.RowKit

theorem grpV_tlen (B : Nat) (D : List Nat) (m : Nat) (hm : m ≤ D.length) : grpV B (D.take m) = grpV B (D.take (tlen (D.map Int.ofNat) m)) := by
  induction m with
  | zero => rfl
  | succ m ih =>
    unfold tlen
    split
    · rename_i h
      have hl : m < D.length := by omega
      have h1 : D[m] = 0 := by
        rw [List.getD, List.getElem?_map, List.getElem?_eq_getElem hl] at h
        simpa using h
      rw [List.take_succ_eq_append_getElem hl, grpV_append, h1, ← ih (by omega)]
      simp [grpV]
    · rfl
theorem tlen_top (zs : List Int) (m j : Nat) (h : tlen zs m = j + 1) : zs.getD j 0 ≠ 0 := by
  induction m with
  | zero => simp [tlen] at h
  | succ m ih =>
    unfold tlen at h
    split at h
    · exact ih h
    · rename_i h0
      obtain rfl : m = j := by omega
      exact h0
/-- the indices that have come when k rounds are over -/
def backs (n k : Nat) : List Nat := (List.range k).map fun j => n - 1 - j
theorem backs_succ (n k : Nat) : backs n (k + 1) = backs n k ++ [n - 1 - k] := by simp [backs, List.range_succ]
theorem backs_len (n k : Nat) : (backs n k).length = k := by simp [backs]
theorem backs_all (D : List Nat) (n : Nat) (hn : n ≤ D.length) : (backs n n).map (fun i => D.getD i 0) = (D.take n).reverse := by
  apply List.ext_getElem
  · simp [backs, Nat.min_eq_left hn]
  · intro i h1 h2
    have hi : i < n := by simpa [backs] using h1
    have h3 : n - 1 - i < D.length := by omega
    simp only [backs, List.map_map, List.getElem_map, List.getElem_range, Function.comp, List.getElem_reverse, List.length_take, Nat.min_eq_left hn, List.getElem_take]
    rw [List.getD, List.getElem?_eq_getElem h3]; rfl
theorem dec_digs (K v n : Nat) (hv : v < 1000000000 ^ 2 ^ K) (hT : tlen ((digs K v).map Int.ofNat) (2 ^ K) = n + 1) :
    0 < (digs K v).getD n 0 ∧ n < 2 ^ K ∧ Go.Lib.decDigits v = Go.Lib.decDigits ((digs K v).getD n 0) ++ (backs n n).flatMap (fun i => padD 9 ((digs K v).getD i 0)) := by
  have hl := digs_zero_len K v
  have hn : n < 2 ^ K := by have := tlen_le ((digs K v).map Int.ofNat) (2 ^ K); omega
  have h0 : 0 < (digs K v).getD n 0 := by
    have := tlen_top _ _ _ hT
    rw [List.getD, List.getElem?_map, List.getElem?_eq_getElem (by omega)] at this
    rw [List.getD, List.getElem?_eq_getElem (by omega)]
    simp at this ⊢; omega
  refine ⟨h0, hn, ?_⟩
  have h1 := grpV_tlen 1000000000 (digs K v) (2 ^ K) (by omega)
  rw [hT, List.take_of_length_le (by omega), digs_val, List.take_succ_eq_append_getElem (by omega)] at h1
  have h2 : (digs K v)[n]'(by omega) = (digs K v).getD n 0 := by rw [List.getD, List.getElem?_eq_getElem (by omega)]; rfl
  rw [h2] at h1
  have h3 := dec_groups9 ((digs K v).take n) ((digs K v).getD n 0) h0 (fun x hx => digs_lt K v hv x (List.mem_of_mem_take hx))
  rw [← h1, ← backs_all _ _ (by omega), List.flatMap_map] at h3
  exact h3
theorem tlen_pos (K v : Nat) (h0 : 0 < v) : 0 < tlen ((digs K v).map Int.ofNat) (2 ^ K) := by
  rcases Nat.eq_zero_or_pos (tlen ((digs K v).map Int.ofNat) (2 ^ K)) with h | h
  · have h1 := grpV_tlen 1000000000 (digs K v) (2 ^ K) (by rw [digs_zero_len]; exact Nat.le_refl _)
    rw [h, List.take_of_length_le (by rw [digs_zero_len]; exact Nat.le_refl _), digs_val] at h1
    simp [grpV] at h1; omega
  · exact h
theorem digs_get (K v i : Nat) (hv : v < 1000000000 ^ 2 ^ K) : (digs K v).getD i 0 < 1000000000 := by
  rcases Nat.lt_or_ge i (digs K v).length with h | h
  · rw [List.getD, List.getElem?_eq_getElem h]
    exact digs_lt K v hv _ (List.getElem_mem h)
  · rw [List.getD, List.getElem?_eq_none h]; decide
theorem dec_len9 {t : Nat} (h : t < 1000000000) : (Go.Lib.decDigits t).length ≤ 9 := by
  have h1 := padD_dec 9 t (by omega) h
  have h2 := congrArg List.length h1
  rw [padD_length, List.length_append, List.length_replicate] at h2
  omega
theorem digs_int (K v i : Nat) : ((digs K v).map Int.ofNat)[i]?.getD 0 = ((digs K v).getD i 0 : Nat) := by
  rw [List.getElem?_map, List.getD]
  cases (digs K v)[i]? <;> rfl
end Go.Proofs.YthicfkeiggcjjaaGreatDoor
