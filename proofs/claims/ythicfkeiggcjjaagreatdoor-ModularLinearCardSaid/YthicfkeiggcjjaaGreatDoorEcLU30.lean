import Derived.Test.YthicfkeiggcjjaaGreatDoorEcLU26
namespace Go.Proofs.YthicfkeiggcjjaaGreatDoor
open Go Go.RowKit

/-- the error that a matrix and a modulus have first (matrices of at most 200 rows and columns) -/
def matE (p : Int) (M : List (List Int)) : Int := if mr p = false then 70 else if M.all (fun l => decide (l.length = widthM M)) then 0 else 5

set_option maxRecDepth 100000 in
set_option maxHeartbeats 8000000 in
theorem residues_bad (ao : Option Addr) (n cap : Nat) (M : List (List Int)) (p E : Int) (w : World) (hm : Nss w ao n cap M) (hT : Table64 w) (hn : n ≤ 200) (hE : matE p M = E) (hE0 : E ≠ 0) :
    Calls Tryz.prog 32 #[.slice ao n cap, .int .i64 p] w fun r w' => r = .returned (.tuple #[.slice none 0 0, .int .i64 E]) ∧ w = w' := by
  have CI := Lib.hid (isPrime_any p w hT)
  obtain ⟨c, hc⟩ : ∃ c, widthM M = c := ⟨_, rfl⟩
  have CW := Lib.hid (width_any ao n cap M w hm)
  rw [hc] at CW
  have HM := Lib.hid hm
  have HML := Lib.hid hm.len
  have HE := Lib.hid hE
  have HC := Lib.hid hc
  clear hm hT hE hc
  cases hp : mr p with
  | false =>
    rw [hp] at CI
    obtain rfl : 70 = E := by have := HE.out; unfold matE at this; rwa [if_pos hp] at this
    clear hp HE
    go_enter Tryz.func32, Tryz.ntmps32
    go_wp2_with fail
    refine CI.out.mono ?_
    rintro e w1 ⟨rfl, rfl⟩
    go_wp2
    refine bodyPost_ret (v := .tuple #[.slice none 0 0, .int .i64 70]) (by simp [results, Tryz.results32, go_sem]) rfl ⟨rfl, rfl⟩
  | true =>
    rw [hp] at CI
    have HALL := Lib.hid (show ¬ (M.all fun l => decide (l.length = c)) = true ∧ E = 5 from by
      have := HE.out
      unfold matE at this
      rw [if_neg (by rw [hp]; decide), HC.out] at this
      by_cases h : (M.all fun l => decide (l.length = c)) = true
      · rw [if_pos h] at this; exact absurd this.symm hE0
      · rw [if_neg h] at this; exact ⟨h, this.symm⟩)
    have h5 := HALL.out.2
    subst h5
    clear hp HE hE0
    go_enter Tryz.func32, Tryz.ntmps32
    go_wp2_with fail
    refine CI.out.mono ?_
    rintro e w1 ⟨rfl, rfl⟩
    go_wp2_with fail
    refine CW.out.mono ?_
    rintro e w1 ⟨rfl, rfl⟩
    clear CI CW
    go_wp2
    go_loopw [7, 18] (fun _ iv wr => ∃ i : Nat, i ≤ n ∧ iv = .int .i64 (i : Int) ∧ Hid (∀ j, j < i → (M.getD j []).length = c) ∧ w = wr) (fun _ iv _ => n - (intOf iv).toNat)
    case atStart => exact ⟨0, Nat.zero_le _, rfl, Lib.hid (fun j hj => absurd hj (Nat.not_lt_zero _)), rfl⟩
    case round =>
      obtain ⟨i, hi, rfl, HJ, rfl⟩ := hrel
      by_cases hlt : i < n
      · obtain ⟨a, off, rfl, hc1⟩ := HM.out.rows (by omega)
        obtain ⟨ri, ci, h1, h2⟩ := hc1 i hlt
        obtain ⟨k, hk⟩ : ∃ k, (M.getD i []).length = k := ⟨_, rfl⟩
        rw [hk] at h1
        have HK := Lib.hid hk
        have hii : (i : Int) < (n : Int) := by omega
        clear hc1 h2 hk
        by_cases hkc : k = c
        · subst hkc
          have HJ2 := Lib.hid (show ∀ j, j < i + 1 → (M.getD j []).length = k from fun j hj => by
            rcases Nat.lt_or_ge j i with h | h
            · exact HJ.out j h
            · obtain rfl : i = j := by omega
              exact HK.out)
          go_wp2
          go_roundw
          case rel => exact ⟨i + 1, by omega, by go_num, HJ2, trivial⟩
          case measure => simp [intOf]; omega
        · have hne : ((k : Int) != (c : Int)) = true := by
            have : ((k : Int) == (c : Int)) = false := by apply beq_eq_false_iff_ne.2; omega
            simp only [bne, this]; rfl
          go_wp2
          refine bodyPost_ret (v := .tuple #[.slice none 0 0, .int .i64 5]) (by simp [results, Tryz.results32, go_sem]) rfl ⟨rfl, rfl⟩
      · exfalso
        obtain rfl : n = i := by omega
        refine HALL.out.1 (List.all_eq_true.2 fun l hl => ?_)
        obtain ⟨j, hj, rfl⟩ := List.getElem_of_mem hl
        have := HJ.out j (by rw [← HML.out]; exact hj)
        simpa [List.getD, hj] using this

set_option maxRecDepth 100000 in
set_option maxHeartbeats 8000000 in
theorem kernel_bad (ao : Option Addr) (n cap : Nat) (M : List (List Int)) (p E : Int) (w : World) (hm : Nss w ao n cap M) (hT : Table64 w) (hn : n ≤ 200) (hE : matE p M = E) (hE0 : E ≠ 0) :
    Calls Tryz.prog 13 #[.slice ao n cap, .int .i64 p] w fun r w' => r = .returned (.tuple #[.slice none 0 0, .int .i64 E]) ∧ w = w' := by
  have CR := Lib.hid (residues_bad ao n cap M p E w hm hT hn hE hE0)
  have hEb : (E != 0) = true := by simpa using hE0
  clear hm hT hE
  go_enter Tryz.func13, Tryz.ntmps13
  go_wp2_with fail
  refine CR.out.mono ?_
  rintro e w1 ⟨rfl, rfl⟩
  go_wp2
  refine bodyPost_ret (v := .tuple #[.slice none 0 0, .int .i64 E]) (by simp [results, Tryz.results13, go_sem]) rfl ⟨rfl, rfl⟩
end Go.Proofs.YthicfkeiggcjjaaGreatDoor

namespace Go.Proofs.YthicfkeiggcjjaaGreatDoor
open Go Go.RowKit

set_option maxRecDepth 100000 in
set_option maxHeartbeats 8000000 in
theorem rank_bad (ao : Option Addr) (n cap : Nat) (M : List (List Int)) (p E : Int) (w : World) (hm : Nss w ao n cap M) (hT : Table64 w) (hn : n ≤ 200) (hE : matE p M = E) (hE0 : E ≠ 0) :
    Calls Tryz.prog 11 #[.slice ao n cap, .int .i64 p] w fun r w' => r = .returned (.tuple #[.int .i64 0, .int .i64 E]) ∧ w = w' := by
  have CR := Lib.hid (residues_bad ao n cap M p E w hm hT hn hE hE0)
  have hEb : (E != 0) = true := by simpa using hE0
  clear hm hT hE
  go_enter Tryz.func11, Tryz.ntmps11
  go_wp2_with fail
  refine CR.out.mono ?_
  rintro e w1 ⟨rfl, rfl⟩
  go_wp2
  refine bodyPost_ret (v := .tuple #[.int .i64 0, .int .i64 E]) (by simp [results, Tryz.results11, go_sem]) rfl ⟨rfl, rfl⟩

set_option maxRecDepth 100000 in
set_option maxHeartbeats 8000000 in
theorem square_bad (ao : Option Addr) (n cap : Nat) (M : List (List Int)) (p E : Int) (w : World) (hm : Nss w ao n cap M) (hT : Table64 w) (hn : n ≤ 200) (hE : matE p M = E) (hE0 : E ≠ 0) :
    Calls Tryz.prog 35 #[.slice ao n cap, .int .i64 p] w fun r w' => r = .returned (.tuple #[.slice none 0 0, .int .i64 E]) ∧ Ext w w' := by
  have CR := Lib.hid (residues_bad ao n cap M p E w hm hT hn hE hE0)
  have hEb : (E != 0) = true := by simpa using hE0
  clear hm hT hE
  go_enter Tryz.func35, Tryz.ntmps35
  go_wp2_with fail
  refine CR.out.mono ?_
  rintro e w1 ⟨rfl, rfl⟩
  go_wp2
  refine bodyPost_ret (v := .tuple #[.slice none 0 0, .int .i64 E]) (by simp [results, Tryz.results35, go_sem]) rfl ⟨rfl, Ext.refl _⟩

set_option maxRecDepth 100000 in
set_option maxHeartbeats 8000000 in
theorem square_shape (ao : Option Addr) (n cap c : Nat) (M : List (List Int)) (p : Int) (w : World) (hm : Nss w ao n cap M) (hT : Table64 w) (hp : mr p = true) (hrow : ∀ i, i < n → (M.getD i []).length = c) (hw : widthM M = c) (hn : n ≤ 200) (hc : c ≤ 200) (hne : c ≠ n) :
    Calls Tryz.prog 35 #[.slice ao n cap, .int .i64 p] w fun r w' => r = .returned (.tuple #[.slice none 0 0, .int .i64 5]) ∧ Ext w w' := by
  have CR := Lib.hid (residues_x ao n cap c M p w hm hT hp hrow hw hn hc)
  have CW := Lib.hid (fun wx (h : Ext w wx) => width_any ao n cap M wx (hm.below h))
  rw [hw] at CW
  have hb : ((c : Int) != (n : Int)) = true := by
    have : ((c : Int) == (n : Int)) = false := by apply beq_eq_false_iff_ne.2; omega
    simp only [bne, this]; rfl
  clear hm hT hp hrow hw
  go_enter Tryz.func35, Tryz.ntmps35
  go_wp2_with fail
  refine CR.out.mono ?_
  rintro e w1 ⟨b, rs, rfl, _, _, _, _, hE, _, _⟩
  have HE := Lib.hid hE
  clear CR hE
  go_wp2_with fail
  refine (CW.out _ HE.out).mono ?_
  rintro e w2 ⟨rfl, rfl⟩
  go_wp2
  refine bodyPost_ret (v := .tuple #[.slice none 0 0, .int .i64 5]) (by simp [results, Tryz.results35, go_sem]) rfl ⟨rfl, HE.out⟩

set_option maxRecDepth 100000 in
set_option maxHeartbeats 8000000 in
theorem square_yes (ao : Option Addr) (n cap : Nat) (M : List (List Int)) (p : Int) (w : World) (hm : Nss w ao n cap M) (hT : Table64 w) (hp : mr p = true) (hrow : ∀ i, i < n → (M.getD i []).length = n) (hw : widthM M = n) (hn : n ≤ 200) :
    Calls Tryz.prog 35 #[.slice ao n cap, .int .i64 p] w fun r w' => ∃ b rs, r = .returned (.tuple #[.slice (some ⟨b, 0, none⟩) n n, .int .i64 0]) ∧ Mat w' b rs n (resM p M) ∧ rs.length = n ∧ (∀ i, i < rs.length → n ≤ (rs.getD i (0, 0)).2 ∧ w.heap.size ≤ (rs.getD i (0, 0)).1) ∧ w.heap.size ≤ b ∧ Ext w w' ∧ MatX w' b rs n (resM p M) ∧ ∀ i, i < n → (rs.getD i (0, 0)).2 = n := by
  have CR := Lib.hid (residues_x ao n cap n M p w hm hT hp hrow hw hn hn)
  have CW := Lib.hid (fun wx (h : Ext w wx) => width_any ao n cap M wx (hm.below h))
  rw [hw] at CW
  have hb : ((n : Int) != (n : Int)) = false := by simp
  clear hm hT hp hrow hw
  go_enter Tryz.func35, Tryz.ntmps35
  go_wp2_with fail
  refine CR.out.mono ?_
  rintro e w1 ⟨b, rs, rfl, hR⟩
  have HR := Lib.hid hR
  clear CR hR
  go_wp2_with fail
  refine (CW.out _ HR.out.2.2.2.2.1).mono ?_
  rintro e w2 ⟨rfl, rfl⟩
  go_wp2
  refine bodyPost_ret (v := .tuple #[.slice (some ⟨b, 0, none⟩) n n, .int .i64 0]) (by simp [results, Tryz.results35, go_sem]) rfl ⟨b, rs, rfl, HR.out⟩

set_option maxRecDepth 100000 in
set_option maxHeartbeats 8000000 in
theorem rank_yes (ao : Option Addr) (n cap c : Nat) (M : List (List Int)) (S : Ech) (p : Int) (w : World) (hm : Nss w ao n cap M) (hT : Table64 w) (hp : mr p = true) (hrow : ∀ i, i < n → (M.getD i []).length = c) (hw : widthM M = c) (hn : n ≤ 200) (hc : c ≤ 200)
    (hS : reduceE p c 0 ⟨resM p M, [], 1⟩ = S) :
    Calls Tryz.prog 11 #[.slice ao n cap, .int .i64 p] w fun r w' => r = .returned (.tuple #[.int .i64 (S.L.length : Nat), .int .i64 0]) ∧ Ext w w' := by
  obtain ⟨p2, p3⟩ := mr_bounds hp
  obtain ⟨k, hk⟩ : ∃ k, S.L.length = k := ⟨_, rfl⟩
  rw [hk]
  have HK := Lib.hid hk
  clear hk
  have CRS := Lib.hid (residues_yes ao n cap c M p w hm hT hp hrow hw hn hc)
  have hok := res_ok (p := p) (by omega) hm.len hrow
  have HOK := Lib.hid hok
  have CW := Lib.hid (fun wx (h : Ext w wx) => width_any ao n cap M wx (hm.below h))
  rw [hw] at CW
  have HS := Lib.hid hS
  clear hm hT hp hrow hw hok hS
  go_enter Tryz.func11, Tryz.ntmps11
  go_wp2_with fail
  refine CRS.out.mono ?_
  rintro r w1 ⟨b, rs, rfl, hM, hrl, hcp, hbB, hE⟩
  clear CRS
  have HE1 := Lib.hid hE
  go_wp2_with fail
  refine (CW.out _ HE1.out).mono ?_
  rintro r w2 ⟨rfl, rfl⟩
  clear CW
  go_wp2_with fail
  refine (echReduce_any b n c c w.heap.size n p rs (resM p M) S w1 hM HOK.out hrl (Nat.le_refl _) (Nat.le_refl _) (fun i hi => (hcp i hi).1) (by omega) p3 (fun i hi => (hcp i hi).2) hbB (Below.size HE1.out) (by omega) (by omega) HS.out).mono ?_
  rintro r w2 ⟨rs', qo, qk, qc, rfl, hM2, hrl2, hoz, hB2⟩
  obtain ⟨rfl, hns⟩ := hoz.nsE
  have HE2 := Lib.hid (show Ext w w2 from Below.trans HE1.out hB2)
  clear hM hrl hcp hbB hE hoz hB2 HOK HS hns hM2
  go_upto_region 5 with fail
  obtain ⟨e, he⟩ : ∃ e, w2.heap.size = e := ⟨_, rfl⟩
  have hv := VBlk.new w2 #[.int .i64 p, .slice (some ⟨b, 0, none⟩) n n, .slice qo S.L.length qc, .int .i64 S.f] 59
  have hEa : Ext w2 (w2.alloc (.cells #[.int .i64 p, .slice (some ⟨b, 0, none⟩) n n, .slice qo S.L.length qc, .int .i64 S.f] 59)) := (Below.refl _ _).alloc (Nat.le_refl _) _
  have HE3 := Lib.hid (HE2.out.trans hEa)
  rw [he] at hv
  rw [he]
  generalize hV : w2.alloc (.cells #[.int .i64 p, .slice (some ⟨b, 0, none⟩) n n, .slice qo S.L.length qc, .int .i64 S.f] 59) = V at *
  have e2 := hv.c 2
  rw [HK.out] at e2 ⊢
  clear hV hEa hv
  go_wp2
  refine bodyPost_ret (v := .tuple #[.int .i64 (k : Int), .int .i64 0]) (by simp [results, Tryz.results11, go_sem]) rfl ⟨rfl, HE3.out⟩

/-- the determinant -/
def detE (n : Nat) (S : Ech) : Int := if S.L.length < n then 0 else S.f
set_option maxRecDepth 100000 in
set_option maxHeartbeats 8000000 in
theorem echDet_any (e b cn n k : Nat) (qo : Option Addr) (qc : Nat) (p f : Int) (w : World) (he : VBlk w e #[.int .i64 p, .slice (some ⟨b, 0, none⟩) n cn, .slice qo k qc, .int .i64 f] 59) :
    Calls Tryz.prog 36 #[.pointer (some ⟨e, 0, none⟩)] w fun r w' => r = .returned (.int .i64 (if k < n then 0 else f)) ∧ Ext w w' := by
  have e1 := he.c 1
  have e2 := he.c 2
  have e3 := he.c 3
  have HE := Lib.hid (show Ext w w.drew from (Below.refl _ _).drew)
  have e3d : w.drew.cell? ⟨e, 3, none⟩ = some (.int .i64 f) := e3
  by_cases h : k < n
  · have hi : (k : Int) < (n : Int) := by omega
    rw [if_pos h]
    go_enter Tryz.func36, Tryz.ntmps36
    go_upto_region 1 with fail
    first | go_region | fail "r1"
    go_wp2
    go_ret
    first | exact ⟨rfl, HE.out⟩ | exact ⟨rfl, Ext.refl _⟩
  · have hi : ¬ (k : Int) < (n : Int) := by omega
    rw [if_neg h]
    go_enter Tryz.func36, Tryz.ntmps36
    go_upto_region 1 with fail
    first | go_region | fail "r1"
    go_wp2
    go_ret
    first | exact ⟨rfl, HE.out⟩ | exact ⟨rfl, Ext.refl _⟩

set_option maxRecDepth 100000 in
set_option maxHeartbeats 8000000 in
theorem det_bad (ao : Option Addr) (n cap : Nat) (p E : Int) (w : World) (hE0 : E ≠ 0)
    (hC : Calls Tryz.prog 35 #[.slice ao n cap, .int .i64 p] w fun r w' => r = .returned (.tuple #[.slice none 0 0, .int .i64 E]) ∧ Ext w w') :
    Calls Tryz.prog 12 #[.slice ao n cap, .int .i64 p] w fun r w' => r = .returned (.tuple #[.int .i64 0, .int .i64 E]) ∧ Ext w w' := by
  have CR := Lib.hid hC
  have hEb : (E != 0) = true := by simpa using hE0
  clear hC
  go_enter Tryz.func12, Tryz.ntmps12
  go_wp2_with fail
  refine CR.out.mono ?_
  rintro e w1 ⟨rfl, hE⟩
  have HE := Lib.hid hE
  clear hE
  go_wp2
  refine bodyPost_ret (v := .tuple #[.int .i64 0, .int .i64 E]) (by simp [results, Tryz.results12, go_sem]) rfl ⟨rfl, HE.out⟩

set_option maxRecDepth 100000 in
set_option maxHeartbeats 8000000 in
theorem solve_bad (ao bo : Option Addr) (n cap bn bc : Nat) (p E : Int) (w : World) (hE0 : E ≠ 0)
    (hC : Calls Tryz.prog 35 #[.slice ao n cap, .int .i64 p] w fun r w' => r = .returned (.tuple #[.slice none 0 0, .int .i64 E]) ∧ Ext w w') :
    Calls Tryz.prog 14 #[.slice ao n cap, .slice bo bn bc, .int .i64 p] w fun r w' => r = .returned (.tuple #[.slice none 0 0, .int .i64 E]) ∧ Ext w w' := by
  have CR := Lib.hid hC
  have hEb : (E != 0) = true := by simpa using hE0
  clear hC
  go_enter Tryz.func14, Tryz.ntmps14
  go_wp2_with fail
  refine CR.out.mono ?_
  rintro e w1 ⟨rfl, hE⟩
  have HE := Lib.hid hE
  clear hE
  go_wp2
  refine bodyPost_ret (v := .tuple #[.slice none 0 0, .int .i64 E]) (by simp [results, Tryz.results14, go_sem]) rfl ⟨rfl, HE.out⟩

set_option maxRecDepth 100000 in
set_option maxHeartbeats 8000000 in
theorem det_yes (ao : Option Addr) (n cap : Nat) (M : List (List Int)) (S : Ech) (p : Int) (w : World) (hm : Nss w ao n cap M) (hT : Table64 w) (hp : mr p = true) (hrow : ∀ i, i < n → (M.getD i []).length = n) (hw : widthM M = n) (hn : n ≤ 200)
    (hS : reduceE p n 0 ⟨resM p M, [], 1⟩ = S) :
    Calls Tryz.prog 12 #[.slice ao n cap, .int .i64 p] w fun r w' => r = .returned (.tuple #[.int .i64 (detE n S), .int .i64 0]) ∧ Ext w w' := by
  obtain ⟨p2, p3⟩ := mr_bounds hp
  obtain ⟨dd, hdd⟩ : ∃ dd, detE n S = dd := ⟨_, rfl⟩
  rw [hdd]
  have HDD := Lib.hid hdd
  clear hdd
  have CRS := Lib.hid (square_yes ao n cap M p w hm hT hp hrow hw hn)
  have hok := res_ok (p := p) (by omega) hm.len hrow
  have HOK := Lib.hid hok
  have HS := Lib.hid hS
  clear hm hT hp hrow hw hok hS
  go_enter Tryz.func12, Tryz.ntmps12
  go_wp2_with fail
  refine CRS.out.mono ?_
  rintro r w1 ⟨b, rs, rfl, hM, hrl, hcp, hbB, hE, _, _⟩
  clear CRS
  have HE1 := Lib.hid hE
  go_wp2_with fail
  refine (echReduce_any b n n n w.heap.size n p rs (resM p M) S w1 hM HOK.out hrl (Nat.le_refl _) (Nat.le_refl _) (fun i hi => (hcp i hi).1) (by omega) p3 (fun i hi => (hcp i hi).2) hbB (Below.size HE1.out) (by omega) (by omega) HS.out).mono ?_
  rintro r w2 ⟨rs', qo, qk, qc, rfl, hM2, hrl2, hoz, hB2⟩
  obtain ⟨rfl, hns⟩ := hoz.nsE
  have HE2 := Lib.hid (show Ext w w2 from Below.trans HE1.out hB2)
  clear hM hrl hcp hbB hE hoz hB2 HOK HS hns hM2
  go_upto_region 5 with fail
  obtain ⟨e, he⟩ : ∃ e, w2.heap.size = e := ⟨_, rfl⟩
  have hv := VBlk.new w2 #[.int .i64 p, .slice (some ⟨b, 0, none⟩) n n, .slice qo S.L.length qc, .int .i64 S.f] 59
  have hEa : Ext w2 (w2.alloc (.cells #[.int .i64 p, .slice (some ⟨b, 0, none⟩) n n, .slice qo S.L.length qc, .int .i64 S.f] 59)) := (Below.refl _ _).alloc (Nat.le_refl _) _
  have HE3 := Lib.hid (HE2.out.trans hEa)
  rw [he] at hv
  rw [he]
  generalize hV : w2.alloc (.cells #[.int .i64 p, .slice (some ⟨b, 0, none⟩) n n, .slice qo S.L.length qc, .int .i64 S.f] 59) = V at *
  have CD := Lib.hid (echDet_any e b n n S.L.length qo qc p S.f V hv)
  clear hV hEa hv
  go_wp2_with fail
  refine CD.out.mono ?_
  rintro r w3 ⟨rfl, hE4⟩
  have HE4 := Lib.hid (HE3.out.trans hE4)
  have e : (if S.L.length < n then 0 else S.f) = dd := HDD.out
  rw [e]
  clear hE4 e CD
  go_wp2
  refine bodyPost_ret (v := .tuple #[.int .i64 dd, .int .i64 0]) (by simp [results, Tryz.results12, go_sem]) rfl ⟨rfl, HE4.out⟩
end Go.Proofs.YthicfkeiggcjjaaGreatDoor
