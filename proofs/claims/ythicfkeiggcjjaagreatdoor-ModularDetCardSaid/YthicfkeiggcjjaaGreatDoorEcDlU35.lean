import Derived.Test.YthicfkeiggcjjaaGreatDoorEcDlU30
import Derived.Test.YthicfkeiggcjjaaGreatDoorEcDlU34
namespace Go.Proofs.YthicfkeiggcjjaaGreatDoor
open Go Go.RowKit

set_option maxRecDepth 100000 in
set_option maxHeartbeats 8000000 in
theorem square_yes (ao : Option Addr) (n cap : Nat) (M : List (List Int)) (p : Int) (w : World) (hm : Nss w ao n cap M) (hT : Table64 w) (hp : mr p = true) (hrow : ∀ i, i < n → (M.getD i []).length = n) (hw : widthM M = n) (hn : n ≤ 200) :
    Calls Tryz.prog 35 #[.slice ao n cap, .int .i64 p] w fun r w' => ∃ b rs, r = .returned (.tuple #[.slice (some ⟨b, 0, none⟩) n n, .int .i64 0]) ∧ Mat w' b rs n (resM p M) ∧ rs.length = n ∧ (∀ i, i < rs.length → n ≤ (rs.getD i (0, 0)).2 ∧ w.heap.size ≤ (rs.getD i (0, 0)).1) ∧ w.heap.size ≤ b ∧ Ext w w' ∧ MatX w' b rs n (resM p M) ∧ ∀ i, i < n → (rs.getD i (0, 0)).2 = n := by
  have CR := Lib.hid (residues_x ao n cap n M p w hm hT hp hrow hw hn hn)
  have CW := Lib.hid (fun wx (h : Ext w wx) => width_any ao n cap M wx (hm.below h))
  rw [hw] at CW
  have hb : ((n : Int) != (n : Int)) = false := by simp
  clear hm hT hp hrow hw
  go_enter Tryz.func35, Tryz.ntmps35
  go_wp2_with fail
  refine CR.out.mono ?_
  rintro e w1 ⟨b, rs, rfl, hR⟩
  have HR := Lib.hid hR
  clear CR hR
  go_wp2_with fail
  refine (CW.out _ HR.out.2.2.2.2.1).mono ?_
  rintro e w2 ⟨rfl, rfl⟩
  go_wp2
  refine bodyPost_ret (v := .tuple #[.slice (some ⟨b, 0, none⟩) n n, .int .i64 0]) (by simp [results, Tryz.results35, go_sem]) rfl ⟨b, rs, rfl, HR.out⟩

set_option maxRecDepth 100000 in
set_option maxHeartbeats 8000000 in
theorem rank_yes (ao : Option Addr) (n cap c : Nat) (M : List (List Int)) (S : Ech) (p : Int) (w : World) (hm : Nss w ao n cap M) (hT : Table64 w) (hp : mr p = true) (hrow : ∀ i, i < n → (M.getD i []).length = c) (hw : widthM M = c) (hn : n ≤ 200) (hc : c ≤ 200)
    (hS : reduceE p c 0 ⟨resM p M, [], 1⟩ = S) :
    Calls Tryz.prog 11 #[.slice ao n cap, .int .i64 p] w fun r w' => r = .returned (.tuple #[.int .i64 (S.L.length : Nat), .int .i64 0]) ∧ Ext w w' := by
  obtain ⟨p2, p3⟩ := mr_bounds hp
  obtain ⟨k, hk⟩ : ∃ k, S.L.length = k := ⟨_, rfl⟩
  rw [hk]
  have HK := Lib.hid hk
  clear hk
  have CRS := Lib.hid (residues_yes ao n cap c M p w hm hT hp hrow hw hn hc)
  have hok := res_ok (p := p) (by omega) hm.len hrow
  have HOK := Lib.hid hok
  have CW := Lib.hid (fun wx (h : Ext w wx) => width_any ao n cap M wx (hm.below h))
  rw [hw] at CW
  have HS := Lib.hid hS
  clear hm hT hp hrow hw hok hS
  go_enter Tryz.func11, Tryz.ntmps11
  go_wp2_with fail
  refine CRS.out.mono ?_
  rintro r w1 ⟨b, rs, rfl, hM, hrl, hcp, hbB, hE⟩
  clear CRS
  have HE1 := Lib.hid hE
  go_wp2_with fail
  refine (CW.out _ HE1.out).mono ?_
  rintro r w2 ⟨rfl, rfl⟩
  clear CW
  go_wp2_with fail
  refine (echReduce_any b n c c w.heap.size n p rs (resM p M) S w1 hM HOK.out hrl (Nat.le_refl _) (Nat.le_refl _) (fun i hi => (hcp i hi).1) (by omega) p3 (fun i hi => (hcp i hi).2) hbB (Below.size HE1.out) (by omega) (by omega) HS.out).mono ?_
  rintro r w2 ⟨rs', qo, qk, qc, rfl, hM2, hrl2, hoz, hB2⟩
  obtain ⟨rfl, hns⟩ := hoz.nsE
  have HE2 := Lib.hid (show Ext w w2 from Below.trans HE1.out hB2)
  clear hM hrl hcp hbB hE hoz hB2 HOK HS hns hM2
  go_upto_region 5 with fail
  obtain ⟨e, he⟩ : ∃ e, w2.heap.size = e := ⟨_, rfl⟩
  have hv := VBlk.new w2 #[.int .i64 p, .slice (some ⟨b, 0, none⟩) n n, .slice qo S.L.length qc, .int .i64 S.f] 59
  have hEa : Ext w2 (w2.alloc (.cells #[.int .i64 p, .slice (some ⟨b, 0, none⟩) n n, .slice qo S.L.length qc, .int .i64 S.f] 59)) := (Below.refl _ _).alloc (Nat.le_refl _) _
  have HE3 := Lib.hid (HE2.out.trans hEa)
  rw [he] at hv
  rw [he]
  generalize hV : w2.alloc (.cells #[.int .i64 p, .slice (some ⟨b, 0, none⟩) n n, .slice qo S.L.length qc, .int .i64 S.f] 59) = V at *
  have e2 := hv.c 2
  rw [HK.out] at e2 ⊢
  clear hV hEa hv
  go_wp2
  refine bodyPost_ret (v := .tuple #[.int .i64 (k : Int), .int .i64 0]) (by simp [results, Tryz.results11, go_sem]) rfl ⟨rfl, HE3.out⟩

/-- the determinant -/
def detE (n : Nat) (S : Ech) : Int := if S.L.length < n then 0 else S.f
set_option maxRecDepth 100000 in
set_option maxHeartbeats 8000000 in
theorem echDet_any (e b cn n k : Nat) (qo : Option Addr) (qc : Nat) (p f : Int) (w : World) (he : VBlk w e #[.int .i64 p, .slice (some ⟨b, 0, none⟩) n cn, .slice qo k qc, .int .i64 f] 59) :
    Calls Tryz.prog 36 #[.pointer (some ⟨e, 0, none⟩)] w fun r w' => r = .returned (.int .i64 (if k < n then 0 else f)) ∧ Ext w w' := by
  have e1 := he.c 1
  have e2 := he.c 2
  have e3 := he.c 3
  have HE := Lib.hid (show Ext w w.drew from (Below.refl _ _).drew)
  have e3d : w.drew.cell? ⟨e, 3, none⟩ = some (.int .i64 f) := e3
  by_cases h : k < n
  · have hi : (k : Int) < (n : Int) := by omega
    rw [if_pos h]
    go_enter Tryz.func36, Tryz.ntmps36
    go_upto_region 1 with fail
    first | go_region | fail "r1"
    go_wp2
    go_ret
    first | exact ⟨rfl, HE.out⟩ | exact ⟨rfl, Ext.refl _⟩
  · have hi : ¬ (k : Int) < (n : Int) := by omega
    rw [if_neg h]
    go_enter Tryz.func36, Tryz.ntmps36
    go_upto_region 1 with fail
    first | go_region | fail "r1"
    go_wp2
    go_ret
    first | exact ⟨rfl, HE.out⟩ | exact ⟨rfl, Ext.refl _⟩

set_option maxRecDepth 100000 in
set_option maxHeartbeats 8000000 in
theorem det_yes (ao : Option Addr) (n cap : Nat) (M : List (List Int)) (S : Ech) (p : Int) (w : World) (hm : Nss w ao n cap M) (hT : Table64 w) (hp : mr p = true) (hrow : ∀ i, i < n → (M.getD i []).length = n) (hw : widthM M = n) (hn : n ≤ 200)
    (hS : reduceE p n 0 ⟨resM p M, [], 1⟩ = S) :
    Calls Tryz.prog 12 #[.slice ao n cap, .int .i64 p] w fun r w' => r = .returned (.tuple #[.int .i64 (detE n S), .int .i64 0]) ∧ Ext w w' := by
  obtain ⟨p2, p3⟩ := mr_bounds hp
  obtain ⟨dd, hdd⟩ : ∃ dd, detE n S = dd := ⟨_, rfl⟩
  rw [hdd]
  have HDD := Lib.hid hdd
  clear hdd
  have CRS := Lib.hid (square_yes ao n cap M p w hm hT hp hrow hw hn)
  have hok := res_ok (p := p) (by omega) hm.len hrow
  have HOK := Lib.hid hok
  have HS := Lib.hid hS
  clear hm hT hp hrow hw hok hS
  go_enter Tryz.func12, Tryz.ntmps12
  go_wp2_with fail
  refine CRS.out.mono ?_
  rintro r w1 ⟨b, rs, rfl, hM, hrl, hcp, hbB, hE, _, _⟩
  clear CRS
  have HE1 := Lib.hid hE
  go_wp2_with fail
  refine (echReduce_any b n n n w.heap.size n p rs (resM p M) S w1 hM HOK.out hrl (Nat.le_refl _) (Nat.le_refl _) (fun i hi => (hcp i hi).1) (by omega) p3 (fun i hi => (hcp i hi).2) hbB (Below.size HE1.out) (by omega) (by omega) HS.out).mono ?_
  rintro r w2 ⟨rs', qo, qk, qc, rfl, hM2, hrl2, hoz, hB2⟩
  obtain ⟨rfl, hns⟩ := hoz.nsE
  have HE2 := Lib.hid (show Ext w w2 from Below.trans HE1.out hB2)
  clear hM hrl hcp hbB hE hoz hB2 HOK HS hns hM2
  go_upto_region 5 with fail
  obtain ⟨e, he⟩ : ∃ e, w2.heap.size = e := ⟨_, rfl⟩
  have hv := VBlk.new w2 #[.int .i64 p, .slice (some ⟨b, 0, none⟩) n n, .slice qo S.L.length qc, .int .i64 S.f] 59
  have hEa : Ext w2 (w2.alloc (.cells #[.int .i64 p, .slice (some ⟨b, 0, none⟩) n n, .slice qo S.L.length qc, .int .i64 S.f] 59)) := (Below.refl _ _).alloc (Nat.le_refl _) _
  have HE3 := Lib.hid (HE2.out.trans hEa)
  rw [he] at hv
  rw [he]
  generalize hV : w2.alloc (.cells #[.int .i64 p, .slice (some ⟨b, 0, none⟩) n n, .slice qo S.L.length qc, .int .i64 S.f] 59) = V at *
  have CD := Lib.hid (echDet_any e b n n S.L.length qo qc p S.f V hv)
  clear hV hEa hv
  go_wp2_with fail
  refine CD.out.mono ?_
  rintro r w3 ⟨rfl, hE4⟩
  have HE4 := Lib.hid (HE3.out.trans hE4)
  have e : (if S.L.length < n then 0 else S.f) = dd := HDD.out
  rw [e]
  clear hE4 e CD
  go_wp2
  refine bodyPost_ret (v := .tuple #[.int .i64 dd, .int .i64 0]) (by simp [results, Tryz.results12, go_sem]) rfl ⟨rfl, HE4.out⟩
end Go.Proofs.YthicfkeiggcjjaaGreatDoor

namespace Go.Proofs.YthicfkeiggcjjaaGreatDoor
open Go Go.RowKit

/-- the determinant of a matrix times another one -/
def detB (n : Nat) (B : Nat → Nat → Int) (M : List (List Int)) : Int := detF n fun i j => dotN n (M.getD i []) fun k => B k j
theorem cg_neg {p f : Int} : Cg p (-f % p) (-f) := Cg.mod p _
theorem detB_step {p : Int} {n col : Nat} {S : Ech} {B : Nat → Nat → Int} (hpr : noDiv p.toNat 2) (hp : 2 ≤ p) (hn4 : n ≤ 4) (hok : EOk p n n S) (hcol : col < n) : Cg p ((stepE p col S).f * detB n B (stepE p col S).M) (S.f * detB n B S.M) := by
  obtain ⟨R, hR⟩ : ∃ R, findR S.M col (S.M.length - S.L.length) S.L.length = R := ⟨_, rfl⟩
  by_cases hn : R = S.M.length
  · rw [step_none (hR.trans hn)]; exact Cg.refl _ _
  · rw [step_some hR hn]
    have hb := find_lt hok hR
    have hl := hok.len
    have hne := findR_ne S.M col (S.M.length - S.L.length) S.L.length (by rw [hR]; omega)
    rw [hR] at hne
    obtain ⟨k, hk⟩ : ∃ k, S.L.length = k := ⟨_, rfl⟩
    rw [hk] at hb ⊢
    have hkn : k < n := by omega
    have hRn : R < n := by omega
    obtain ⟨a1, a2, a3⟩ := EOk.swap hok.len hok.row hok.res hkn hRn
    have hv : ((swapL S.M k R []).getD k []).getD col 0 = (S.M.getD R []).getD col 0 := by
      rw [swap_get [] (by omega) (by omega), swI_at]
    have hvr := hok.res.at (i := R) (j := col) (by omega) (by rw [hok.row R (by omega)]; exact hcol)
    obtain ⟨v, hve⟩ : ∃ v, (S.M.getD R []).getD col 0 = v := ⟨_, rfl⟩
    rw [hve] at hne hv hvr
    show Cg p ((if R = k then S.f else -S.f % p) * ((swapL S.M k R []).getD k []).getD col 0 % p * detB n B (clearM p k col (scaleM p k col (swapL S.M k R [])))) (S.f * detB n B S.M)
    have h1 : Cg p ((if R = k then S.f else -S.f % p) * detB n B (swapL S.M k R [])) (S.f * detB n B S.M) := by
      by_cases hRk : R = k
      · rw [if_pos hRk]
        subst hRk
        rw [swap_same]
        exact Cg.refl _ _
      · rw [if_neg hRk]
        have e : detB n B (swapL S.M k R []) = -detB n B S.M := by
          unfold detB
          have := det_swap hn4 hkn hRn (by omega) (fun i j => dotN n (S.M.getD i []) fun x => B x j)
          rw [← this]
          refine det_eq hn4 fun i j _ _ => ?_
          rw [swap_get [] (by omega) (by omega)]
        rw [e]
        have h := (cg_neg (p := p) (f := S.f)).mul (Cg.refl p (-detB n B S.M))
        have e2 : -S.f * -detB n B S.M = S.f * detB n B S.M := Int.neg_mul_neg _ _
        rwa [e2] at h
    obtain ⟨f1, hf1⟩ : ∃ f1, (if R = k then S.f else -S.f % p) = f1 := ⟨_, rfl⟩
    rw [hf1] at h1 ⊢
    generalize swapL S.M k R [] = M1 at *
    obtain ⟨b1, b2, b3⟩ := scale_ok (np := k) (col := col) hp a1 a2 a3 (show k < n by omega)
    have hsk : ∀ i, (scaleM p k col M1).getD i [] = if i = k then scaleRow p (invZ v p) (M1.getD k []) else M1.getD i [] := fun i => by
      rw [scale_at (by omega), hv]
    rw [hv]
    generalize scaleM p k col M1 = M2 at *
    have h2 : Cg p (detB n B M2) (invZ v p * detB n B M1) := by
      unfold detB
      rw [← det_scale hn4 hkn]
      refine det_cg hn4 fun i j hi hj => ?_
      rw [hsk i]
      by_cases hik : i = k
      · rw [if_pos hik, if_pos hik, hik]
        exact scale_dot (a2 k hkn) _
      · rw [if_neg hik, if_neg hik]
        exact Cg.refl _ _
    have h3 : Cg p (detB n B (clearM p k col M2)) (detB n B M2) := by
      unfold detB
      rw [← det_clear hn4 hkn (fun i => if (M2.getD i []).getD col 0 = 0 then 0 else p - (M2.getD i []).getD col 0) (fun i j => dotN n (M2.getD i []) fun x => B x j)]
      refine det_cg hn4 fun i j hi hj => ?_
      rw [clear_at (by omega)]
      by_cases hik : i = k
      · rw [if_pos hik, if_pos hik]
        exact Cg.refl _ _
      · rw [if_neg hik, if_neg hik]
        by_cases h0 : (M2.getD i []).getD col 0 = 0
        · rw [if_pos h0]
          unfold elimRow
          rw [if_pos h0, Int.zero_mul, Int.add_zero]
          exact Cg.refl _ _
        · rw [if_neg h0]
          exact elim_dot (b2 i hi) _ h0
    have h4 : Cg p (v * invZ v p) 1 := by
      have h7 := inv_mul hpr hp (show 0 < v by omega) hvr.2
      exact ⟨v * invZ v p / p, by have := Int.emod_add_mul_ediv (v * invZ v p) p; omega⟩
    have h5 : Cg p (f1 * v % p * detB n B (clearM p k col M2)) (f1 * v * (invZ v p * detB n B M1)) := (Cg.mod p (f1 * v)).mul (h3.trans h2)
    have h6 : Cg p (f1 * v * (invZ v p * detB n B M1)) (f1 * detB n B M1) := by
      have h := ((Cg.refl p f1).mul h4).mul (Cg.refl p (detB n B M1))
      rw [Int.mul_one] at h
      have e : f1 * v * (invZ v p * detB n B M1) = f1 * (v * invZ v p) * detB n B M1 := by
        rw [Int.mul_assoc, Int.mul_assoc, Int.mul_assoc]
      rwa [e]
    exact (h5.trans h6).trans h1
theorem detB_reduce {p : Int} {n : Nat} {B : Nat → Nat → Int} (hpr : noDiv p.toNat 2) (hp : 2 ≤ p) (hn4 : n ≤ 4) : ∀ (k col : Nat) (S : Ech), EOk p n n S → col + k ≤ n → Cg p ((reduceE p k col S).f * detB n B (reduceE p k col S).M) (S.f * detB n B S.M)
  | 0, _, _, _, _ => Cg.refl _ _
  | k + 1, col, S, hok, hc => (detB_reduce hpr hp hn4 k (col + 1) _ (hok.step hp) (by omega)).trans (detB_step hpr hp hn4 hok (by omega))
/-- the rows behind the pivots' are zero in all columns done -/
def ZerA (col : Nat) (S : Ech) : Prop := ∀ x, x < col → Zer x S.L.length S.M
theorem ZerA.step {p : Int} {n c col : Nat} {S : Ech} (hpr : noDiv p.toNat 2) (hp : 2 ≤ p) (hok : EOk p n c S) (hcol : col < c) (hasc : Asc col S.L) (hred : Red S) (h : ZerA col S) : ZerA (col + 1) (stepE p col S) := by
  obtain ⟨R, hR⟩ : ∃ R, findR S.M col (S.M.length - S.L.length) S.L.length = R := ⟨_, rfl⟩
  by_cases hn : R = S.M.length
  · rw [step_none (hR.trans hn)]
    intro x hx
    by_cases hxc : x < col
    · exact h x hxc
    · obtain rfl : col = x := by omega
      intro i h1 h2
      refine findR_none (S.M.length - S.L.length) S.L.length ?_ i h1 (by omega)
      have := hok.len
      have := hok.pl
      rw [hR, hn]; omega
  · have hr := hred.step hpr hp hok hcol hasc
    have hL : (stepE p col S).L = S.L ++ [(col : Int)] := by rw [step_some hR hn]
    have hl : (stepE p col S).L.length = S.L.length + 1 := by rw [hL]; simp
    intro x hx
    rw [hl]
    by_cases hxc : x < col
    · have := (Zer.step (p := p) (col := col) hok (h x hxc) (Nat.le_refl _)).1
      intro i h1 h2
      exact this i (by omega) h2
    · obtain rfl : col = x := by omega
      intro i h1 h2
      have := hr S.L.length i (by omega) h2
      rw [hL, getD_end, Int.toNat_natCast, if_neg (by omega)] at this
      exact this
theorem ZerA.reduce {p : Int} {n c : Nat} (hpr : noDiv p.toNat 2) (hp : 2 ≤ p) : ∀ (k col : Nat) (S : Ech), EOk p n c S → col + k ≤ c → Asc col S.L → Red S → ZerA col S → ZerA (col + k) (reduceE p k col S)
  | 0, _, _, _, _, _, _, h => h
  | k + 1, col, S, hok, hc, ha, hr, h => by
    have := ZerA.reduce hpr hp k (col + 1) _ (hok.step hp) (by omega) (ha.step (p := p)) (hr.step hpr hp hok (by omega) ha) (h.step hpr hp hok (by omega) ha hr)
    rw [show col + (k + 1) = col + 1 + k by omega]
    exact this
/-- what elimination gives, times the determinant of another matrix, is the determinant of the product -/
theorem det_times {p : Int} {n : Nat} {A : List (List Int)} {S : Ech} (B : Nat → Nat → Int) (hpr : noDiv p.toNat 2) (hp : 2 ≤ p) (hn4 : n ≤ 4) (hl : A.length = n) (hrow : ∀ i, i < n → (A.getD i []).length = n) (hS : reduceE p n 0 ⟨resM p A, [], 1⟩ = S) : Cg p (detE n S * detF n B) (detB n B (resM p A)) := by
  have hok := res_ok (p := p) (n := n) (c := n) hp hl hrow
  have h1 := detB_reduce (B := B) hpr hp hn4 n 0 ⟨resM p A, [], 1⟩ hok (by omega)
  have hred := Red.reduce hpr hp n 0 ⟨resM p A, [], 1⟩ hok (by omega) (Asc.nil 0) (fun k i hk => absurd hk (Nat.not_lt_zero _))
  have hza := ZerA.reduce hpr hp n 0 ⟨resM p A, [], 1⟩ hok (by omega) (Asc.nil 0) (fun k i hk => absurd hk (Nat.not_lt_zero _)) (fun x hx => absurd hx (Nat.not_lt_zero _))
  have hasc : Asc n S.L := by
    have := Asc.reduce (p := p) n 0 ⟨resM p A, [], 1⟩ (Asc.nil 0)
    rwa [hS, Nat.zero_add] at this
  have hos : EOk p n n S := by rw [← hS]; exact hok.reduce hp n 0 _
  rw [hS] at h1 hred hza
  rw [Nat.zero_add] at hza
  simp only at h1
  rw [Int.one_mul] at h1
  refine Cg.trans ?_ h1
  unfold detE
  by_cases hlt : S.L.length < n
  · rw [if_pos hlt, Int.zero_mul]
    have e : detB n B S.M = 0 := by
      refine det_zero hn4 (show n - 1 < n by omega) fun j hj => ?_
      refine sumN_zero n fun x hx => ?_
      rw [hza x hx (n - 1) (by omega) (by rw [hos.len]; omega), Int.zero_mul]
    rw [e, Int.mul_zero]
    exact Cg.refl _ _
  · rw [if_neg hlt]
    have hL : S.L.length = n := by have := hasc.len; omega
    have e : detB n B S.M = detF n B := by
      refine det_eq hn4 fun i j hi hj => ?_
      have hent : ∀ x, x < n → (S.M.getD i []).getD x 0 = if i = x then 1 else 0 := fun x hx => by
        have h1 := hred x i (by omega) (by rw [hos.len]; exact hi)
        rw [hasc.all hL hx, Int.toNat_natCast] at h1
        exact h1
      unfold dotN
      rw [sumN_one (a := i) n hi (fun x hx hxi => by rw [hent x hx, if_neg (fun e => hxi e.symm), Int.zero_mul])]
      rw [hent i hi, if_pos rfl, Int.one_mul]
    rw [e]
    exact Cg.refl _ _
/-- an element of a matrix -/
def ent (M : List (List Int)) (i j : Nat) : Int := (M.getD i []).getD j 0
theorem det_res {p : Int} {n : Nat} {A : List (List Int)} (hn4 : n ≤ 4) : Cg p (detB n (fun i j => if i = j then 1 else 0) (resM p A)) (detF n (ent A)) := by
  refine det_cg hn4 fun i j hi hj => ?_
  unfold dotN
  rw [sumN_one (a := j) n hj (fun x hx hxi => by show _ * (if x = j then (1 : Int) else 0) = 0; rw [if_neg hxi, Int.mul_zero])]
  show Cg p (((resM p A).getD i []).getD j 0 * (if j = j then (1 : Int) else 0)) (ent A i j)
  rw [if_pos rfl, Int.mul_one, resM_get, resRow_at]
  exact Cg.mod p _
/-- what elimination gives is the determinant -/
theorem det_is {p : Int} {n : Nat} {A : List (List Int)} {S : Ech} (hpr : noDiv p.toNat 2) (hp : 2 ≤ p) (hn4 : n ≤ 4) (hl : A.length = n) (hrow : ∀ i, i < n → (A.getD i []).length = n) (hS : reduceE p n 0 ⟨resM p A, [], 1⟩ = S) : Cg p (detE n S) (detF n (ent A)) := by
  have h := det_times (fun i j => if i = j then 1 else 0) hpr hp hn4 hl hrow hS
  rw [det_one hn4, Int.mul_one] at h
  exact h.trans (det_res hn4)
/-- determinants are multiplicative -/
theorem det_mul {p : Int} {n : Nat} {A B : List (List Int)} {S U V : Ech} {C : List (List Int)} (hpr : noDiv p.toNat 2) (hp : 2 ≤ p) (hn4 : n ≤ 4) (hl : A.length = n) (hrow : ∀ i, i < n → (A.getD i []).length = n) (hlB : B.length = n) (hrowB : ∀ i, i < n → (B.getD i []).length = n) (hlC : C.length = n) (hrowC : ∀ i, i < n → (C.getD i []).length = n)
    (hC : ∀ i j, i < n → j < n → Cg p (ent C i j) (dotN n (A.getD i []) fun k => ent B k j)) (hS : reduceE p n 0 ⟨resM p A, [], 1⟩ = S) (hU : reduceE p n 0 ⟨resM p B, [], 1⟩ = U) (hV : reduceE p n 0 ⟨resM p C, [], 1⟩ = V) : Cg p (detE n V) (detE n S * detE n U) := by
  have h1 := det_is hpr hp hn4 hlC hrowC hV
  have h2 := det_times (ent B) hpr hp hn4 hl hrow hS
  have h3 := det_is hpr hp hn4 hlB hrowB hU
  have h4 : Cg p (detF n (ent C)) (detB n (ent B) (resM p A)) := det_cg hn4 fun i j hi hj => by
    refine (hC i j hi hj).trans ?_
    unfold dotN
    refine Cg.symm (sumN_dvd n fun x hx => ?_)
    rw [resM_get, resRow_at]
    have := (Cg.mod p ((A.getD i []).getD x 0)).mul (Cg.refl p (ent B x j))
    exact this
  exact h1.trans (h4.trans (h2.symm.trans ((Cg.refl p _).mul h3.symm)))
end Go.Proofs.YthicfkeiggcjjaaGreatDoor
