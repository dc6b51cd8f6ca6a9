import Derived.Test.YthicfkeiggcjjaaGreatDoorEcDlU30
import Derived.Test.YthicfkeiggcjjaaGreatDoorEcDlU17
import Derived.Test.YthicfkeiggcjjaaGreatDoorEcDlU21
namespace Go.Proofs.YthicfkeiggcjjaaGreatDoor
open Go Go.RowKit

def sqRow (l : List Int) (n i : Nat) : List Int := (List.range n).map fun j => l.getD (n * i + j) 0
def sqM (l : List Int) (n : Nat) : List (List Int) := (List.range n).map (sqRow l n)
theorem sq_len (l : List Int) (n : Nat) : (sqM l n).length = n := by simp [sqM]
theorem sq_row {l : List Int} {n i : Nat} (h : i < n) : (sqM l n).getD i [] = sqRow l n i := by simp [sqM, List.getD, h]
theorem sqRow_len (l : List Int) (n i : Nat) : (sqRow l n i).length = n := by simp [sqRow]
theorem sqRow_take {l : List Int} {n i j : Nat} (h : j < n) : (sqRow l n i).take (j + 1) = (sqRow l n i).take j ++ [l.getD (n * i + j) 0] := by
  rw [List.take_succ_eq_append_getElem (by rw [sqRow_len]; exact h)]
  simp [sqRow]
theorem sqM_take {l : List Int} {n i : Nat} (h : i < n) : (sqM l n).take (i + 1) = (sqM l n).take i ++ [sqRow l n i] := by
  rw [List.take_succ_eq_append_getElem (by rw [sq_len]; exact h)]
  simp [sqM]

set_option maxRecDepth 100000 in
set_option maxHeartbeats 8000000 in
theorem square_any (ao : Option Addr) (n m cap : Nat) (l : List Int) (w : World) (h : Ns w ao m cap l) (hn : n ≤ 100) (hm : m ≤ 1000000) :
    Calls Tryz.prog 24 #[.slice ao m cap, .int .i64 (n : Int)] w fun e w' => ∃ bo bc, e = .returned (.slice bo n bc) ∧ Nss w' bo n bc (sqM l n) ∧ Ext w w' := by
  have HH := Lib.hid h
  have HL := Lib.hid h.len
  clear h
  obtain ⟨C, hCe⟩ : ∃ C, w.heap.size = C := ⟨_, rfl⟩
  have HEX := Lib.hid (show ∀ wx, Below C w wx → Ext w wx from fun wx h => by rw [← hCe] at h; exact h)
  have hC0 : C ≤ w.heap.size := by omega
  clear hCe
  go_enter Tryz.func24, Tryz.ntmps24
  go_wp2
  go_loopw [5, 6, 7, 8, 9] (fun av iv _ _ _ wr => ∃ (i : Nat) (rs : List Value), i ≤ n ∧ iv = .int .i64 (i : Int) ∧ Hid (RS wr C av rs ((sqM l n).take i)) ∧ Hid (Below C w wr) ∧ C ≤ wr.heap.size)
    (fun _ iv _ _ _ _ => n - (intOf iv).toNat)
  case atStart => exact ⟨0, [], Nat.zero_le _, rfl, Lib.hid (RS.nil _ C), Lib.hid (Below.refl C w), hC0⟩
  case round =>
    obtain ⟨i, rs, hi, rfl, hRS, hE, hCs⟩ := hrel
    by_cases hlt : i < n
    · have hii : (i : Int) < (n : Int) := by omega
      obtain ⟨D, hD⟩ : ∃ D, wr.heap.size = D := ⟨_, rfl⟩
      have HXD := Lib.hid (show ∀ wx, Below D wr wx → Ext wr wx from fun wx h => by rw [← hD] at h; exact h)
      have HD := Lib.hid hD
      have hD0 : D ≤ wr.heap.size := by omega
      have hCD : C ≤ D := by omega
      have hni : n * i ≤ 10000 := Nat.le_trans (Nat.mul_le_mul hn (show i ≤ 100 by omega)) (by decide)
      obtain ⟨q, hq⟩ : ∃ q, n * i = q := ⟨_, rfl⟩
      have HQ := Lib.hid hq
      have hmul : (n : Int) * (i : Int) = (q : Int) := by rw [← hq, Int.natCast_mul]
      have hmw : IntKind.i64.wrap ((n : Int) * (i : Int)) = (q : Int) := by rw [hmul]; exact IntWalk.i64_in _ (by omega)
      rw [hq] at hni
      have HROW := Lib.hid (show (sqM l n).take (i + 1) = (sqM l n).take i ++ [sqRow l n i] from sqM_take hlt)
      clear hq hD
      go_wp2
      go_loopw [7, 8, 9] (fun rv jv _ wx => ∃ j : Nat, j ≤ n ∧ jv = .int .i64 (j : Int) ∧ OZ wx D rv ((sqRow l n i).take j) ∧ Below D wr wx ∧ D ≤ wx.heap.size)
        (fun _ jv _ _ => n - (intOf jv).toNat)
      case atStart => exact ⟨0, Nat.zero_le _, rfl, OZ.nil _ D, Below.refl D wr, hD0⟩
      case round =>
        rename World => wx
        obtain ⟨j, hj, rfl, hown, hbx, hDx⟩ := hrel
        by_cases hjl : j < n
        · have hji : (j : Int) < (n : Int) := by omega
          have hlp : ((sqRow l n i).take j).length ≤ 1000000 := by rw [List.length_take, sqRow_len]; omega
          obtain ⟨t, ht⟩ : ∃ t, q + j = t := ⟨_, rfl⟩
          have haw : IntKind.i64.wrap ((q : Int) + (j : Int)) = (t : Int) := by rw [IntWalk.i64_in _ (by omega)]; omega
          obtain ⟨v, hv⟩ : ∃ v, l.getD t 0 = v := ⟨_, rfl⟩
          have HNP := Lib.hid (show (sqRow l n i).take (j + 1) = (sqRow l n i).take j ++ [v] by
            rw [sqRow_take hjl, HQ.out, ht, hv])
          have HBX := Lib.hid hbx
          have HOWN := Lib.hid hown
          by_cases htm : t < m
          · obtain ⟨b2, o2, rfl, hcell⟩ := ((HH.out.below (HEX.out _ hE.out)).below (HXD.out _ hbx)).cells (by omega)
            have k1 := hcell t htm
            rw [hv] at k1
            have hti : (t : Int) < (m : Int) := by omega
            clear hcell hv hbx hown ht
            go_wp2_with (at_builtin; refine wpList_append_z _ rfl (.tmp 36) (.tmp 38) rfl D _ ((sqRow l n i).take j) v rfl rfl HOWN.out hDx hlp ?_)
            intro pv' w2 hp2' hB2
            have hsz := hB2.size
            rw [← HNP.out] at hp2'
            have Rr := Lib.hid (And.intro hp2' (HBX.out.trans hB2))
            clear hp2' k1 hB2
            go_wp2
            go_roundw
            case rel => exact ⟨j + 1, by omega, by go_num, Rr.out.1, Rr.out.2, by omega⟩
            case measure => simp [intOf] <;> omega
          · have hti : ¬ (t : Int) < (m : Int) := by omega
            have hv0 : v = 0 := by
              rw [← hv]
              simp [List.getD, show l.length ≤ t by rw [HL.out]; omega]
            subst hv0
            clear hv hbx hown ht
            go_wp2_with (at_builtin; refine wpList_append_z _ rfl (.tmp 36) (.tmp 38) rfl D _ ((sqRow l n i).take j) 0 rfl rfl HOWN.out hDx hlp ?_)
            intro pv' w2 hp2' hB2
            have hsz := hB2.size
            rw [← HNP.out] at hp2'
            have Rr := Lib.hid (And.intro hp2' (HBX.out.trans hB2))
            clear hp2' hB2
            go_wp2
            go_roundw
            case rel => exact ⟨j + 1, by omega, by go_num, Rr.out.1, Rr.out.2, by omega⟩
            case measure => simp [intOf] <;> omega
        · obtain rfl : n = j := by omega
          rw [List.take_of_length_le (by rw [sqRow_len]; exact Nat.le_refl _)] at hown
          obtain ⟨yo, yc, rfl⟩ := hown.slE
          have hrs1 := hRS.out.below (HXD.out _ hbx)
          have hC1 : C ≤ wx.heap.size := by omega
          have HB1 := Lib.hid (hE.out.trans (hbx.mono hCD))
          have hfar := hRS.out.lt
          rw [HD.out] at hfar
          have hl6 : rs.length ≤ 1000000 := by
            have := hRS.out.len
            rw [List.length_take, sq_len] at this
            omega
          clear hbx hE hRS hmul hmw
          go_wp2_with (at_builtin; refine wpList_append_rs _ rfl (.tmp 40) (.tmp 42) rfl C D _ rs ((sqM l n).take i) _ (sqRow l n i) rfl rfl hrs1 hown hCD hfar hC1 hl6 ?_)
          intro pv' w2 hp2' hB2
          have hsz := hB2.size
          rw [← HROW.out] at hp2'
          have Rr := Lib.hid (And.intro (Lib.hid hp2') (Lib.hid (HB1.out.trans hB2)))
          clear hown hp2' hrs1 hfar hB2 HB1
          go_wp2
          go_roundw
          case rel => exact ⟨i + 1, _, by omega, by go_num, Rr.out.1, Rr.out.2, by omega⟩
          case measure => simp [intOf] <;> omega
    · obtain rfl : n = i := by omega
      have hRS2 := hRS.out
      rw [List.take_of_length_le (by rw [sq_len]; exact Nat.le_refl _)] at hRS2
      obtain ⟨vo, vc, rfl, hns⟩ := hRS2.nss
      rw [sq_len] at hns ⊢
      have HNS := Lib.hid hns
      have HEW := Lib.hid (HEX.out _ hE.out)
      clear hRS hRS2 hns hE
      go_wp2
      go_ret
      exact ⟨vo, vc, rfl, HNS.out, HEW.out⟩
end Go.Proofs.YthicfkeiggcjjaaGreatDoor

namespace Go.Proofs.YthicfkeiggcjjaaGreatDoor
open Go Go.RowKit

set_option maxRecDepth 100000 in
set_option maxHeartbeats 8000000 in
theorem square_rs (ao : Option Addr) (n m cap : Nat) (l : List Int) (w : World) (h : Ns w ao m cap l) (hn : n ≤ 100) (hm : m ≤ 1000000) :
    Calls Tryz.prog 24 #[.slice ao m cap, .int .i64 (n : Int)] w fun e w' => ∃ v rs, e = .returned v ∧ RS w' w.heap.size v rs (sqM l n) ∧ Ext w w' := by
  have HH := Lib.hid h
  have HL := Lib.hid h.len
  clear h
  obtain ⟨C, hCe⟩ : ∃ C, w.heap.size = C := ⟨_, rfl⟩
  have HEX := Lib.hid (show ∀ wx, Below C w wx → Ext w wx from fun wx h => by rw [← hCe] at h; exact h)
  have hC0 : C ≤ w.heap.size := by omega
  have HCE := Lib.hid hCe
  clear hCe
  go_enter Tryz.func24, Tryz.ntmps24
  go_wp2
  go_loopw [5, 6, 7, 8, 9] (fun av iv _ _ _ wr => ∃ (i : Nat) (rs : List Value), i ≤ n ∧ iv = .int .i64 (i : Int) ∧ Hid (RS wr C av rs ((sqM l n).take i)) ∧ Hid (Below C w wr) ∧ C ≤ wr.heap.size)
    (fun _ iv _ _ _ _ => n - (intOf iv).toNat)
  case atStart => exact ⟨0, [], Nat.zero_le _, rfl, Lib.hid (RS.nil _ C), Lib.hid (Below.refl C w), hC0⟩
  case round =>
    obtain ⟨i, rs, hi, rfl, hRS, hE, hCs⟩ := hrel
    by_cases hlt : i < n
    · have hii : (i : Int) < (n : Int) := by omega
      obtain ⟨D, hD⟩ : ∃ D, wr.heap.size = D := ⟨_, rfl⟩
      have HXD := Lib.hid (show ∀ wx, Below D wr wx → Ext wr wx from fun wx h => by rw [← hD] at h; exact h)
      have HD := Lib.hid hD
      have hD0 : D ≤ wr.heap.size := by omega
      have hCD : C ≤ D := by omega
      have hni : n * i ≤ 10000 := Nat.le_trans (Nat.mul_le_mul hn (show i ≤ 100 by omega)) (by decide)
      obtain ⟨q, hq⟩ : ∃ q, n * i = q := ⟨_, rfl⟩
      have HQ := Lib.hid hq
      have hmul : (n : Int) * (i : Int) = (q : Int) := by rw [← hq, Int.natCast_mul]
      have hmw : IntKind.i64.wrap ((n : Int) * (i : Int)) = (q : Int) := by rw [hmul]; exact IntWalk.i64_in _ (by omega)
      rw [hq] at hni
      have HROW := Lib.hid (show (sqM l n).take (i + 1) = (sqM l n).take i ++ [sqRow l n i] from sqM_take hlt)
      clear hq hD
      go_wp2
      go_loopw [7, 8, 9] (fun rv jv _ wx => ∃ j : Nat, j ≤ n ∧ jv = .int .i64 (j : Int) ∧ OZ wx D rv ((sqRow l n i).take j) ∧ Below D wr wx ∧ D ≤ wx.heap.size)
        (fun _ jv _ _ => n - (intOf jv).toNat)
      case atStart => exact ⟨0, Nat.zero_le _, rfl, OZ.nil _ D, Below.refl D wr, hD0⟩
      case round =>
        rename World => wx
        obtain ⟨j, hj, rfl, hown, hbx, hDx⟩ := hrel
        by_cases hjl : j < n
        · have hji : (j : Int) < (n : Int) := by omega
          have hlp : ((sqRow l n i).take j).length ≤ 1000000 := by rw [List.length_take, sqRow_len]; omega
          obtain ⟨t, ht⟩ : ∃ t, q + j = t := ⟨_, rfl⟩
          have haw : IntKind.i64.wrap ((q : Int) + (j : Int)) = (t : Int) := by rw [IntWalk.i64_in _ (by omega)]; omega
          obtain ⟨v, hv⟩ : ∃ v, l.getD t 0 = v := ⟨_, rfl⟩
          have HNP := Lib.hid (show (sqRow l n i).take (j + 1) = (sqRow l n i).take j ++ [v] by
            rw [sqRow_take hjl, HQ.out, ht, hv])
          have HBX := Lib.hid hbx
          have HOWN := Lib.hid hown
          by_cases htm : t < m
          · obtain ⟨b2, o2, rfl, hcell⟩ := ((HH.out.below (HEX.out _ hE.out)).below (HXD.out _ hbx)).cells (by omega)
            have k1 := hcell t htm
            rw [hv] at k1
            have hti : (t : Int) < (m : Int) := by omega
            clear hcell hv hbx hown ht
            go_wp2_with (at_builtin; refine wpList_append_z _ rfl (.tmp 36) (.tmp 38) rfl D _ ((sqRow l n i).take j) v rfl rfl HOWN.out hDx hlp ?_)
            intro pv' w2 hp2' hB2
            have hsz := hB2.size
            rw [← HNP.out] at hp2'
            have Rr := Lib.hid (And.intro hp2' (HBX.out.trans hB2))
            clear hp2' k1 hB2
            go_wp2
            go_roundw
            case rel => exact ⟨j + 1, by omega, by go_num, Rr.out.1, Rr.out.2, by omega⟩
            case measure => simp [intOf] <;> omega
          · have hti : ¬ (t : Int) < (m : Int) := by omega
            have hv0 : v = 0 := by
              rw [← hv]
              simp [List.getD, show l.length ≤ t by rw [HL.out]; omega]
            subst hv0
            clear hv hbx hown ht
            go_wp2_with (at_builtin; refine wpList_append_z _ rfl (.tmp 36) (.tmp 38) rfl D _ ((sqRow l n i).take j) 0 rfl rfl HOWN.out hDx hlp ?_)
            intro pv' w2 hp2' hB2
            have hsz := hB2.size
            rw [← HNP.out] at hp2'
            have Rr := Lib.hid (And.intro hp2' (HBX.out.trans hB2))
            clear hp2' hB2
            go_wp2
            go_roundw
            case rel => exact ⟨j + 1, by omega, by go_num, Rr.out.1, Rr.out.2, by omega⟩
            case measure => simp [intOf] <;> omega
        · obtain rfl : n = j := by omega
          rw [List.take_of_length_le (by rw [sqRow_len]; exact Nat.le_refl _)] at hown
          obtain ⟨yo, yc, rfl⟩ := hown.slE
          have hrs1 := hRS.out.below (HXD.out _ hbx)
          have hC1 : C ≤ wx.heap.size := by omega
          have HB1 := Lib.hid (hE.out.trans (hbx.mono hCD))
          have hfar := hRS.out.lt
          rw [HD.out] at hfar
          have hl6 : rs.length ≤ 1000000 := by
            have := hRS.out.len
            rw [List.length_take, sq_len] at this
            omega
          clear hbx hE hRS hmul hmw
          go_wp2_with (at_builtin; refine wpList_append_rs _ rfl (.tmp 40) (.tmp 42) rfl C D _ rs ((sqM l n).take i) _ (sqRow l n i) rfl rfl hrs1 hown hCD hfar hC1 hl6 ?_)
          intro pv' w2 hp2' hB2
          have hsz := hB2.size
          rw [← HROW.out] at hp2'
          have Rr := Lib.hid (And.intro (Lib.hid hp2') (Lib.hid (HB1.out.trans hB2)))
          clear hown hp2' hrs1 hfar hB2 HB1
          go_wp2
          go_roundw
          case rel => exact ⟨i + 1, _, by omega, by go_num, Rr.out.1, Rr.out.2, by omega⟩
          case measure => simp [intOf] <;> omega
    · obtain rfl : n = i := by omega
      have hRS2 := hRS.out
      rw [List.take_of_length_le (by rw [sq_len]; exact Nat.le_refl _)] at hRS2
      have HNS := Lib.hid hRS2
      have HEW := Lib.hid (HEX.out _ hE.out)
      clear hRS hRS2 hE
      go_wp2
      go_ret
      exact ⟨_, _, rfl, by rw [HCE.out]; exact HNS.out, HEW.out⟩
end Go.Proofs.YthicfkeiggcjjaaGreatDoor

namespace Go.Proofs.YthicfkeiggcjjaaGreatDoor

def prodL : List Nat → Nat
  | [] => 1
  | x :: l => x * prodL l
theorem prodL_perm {l k : List Nat} (h : l.Perm k) : prodL l = prodL k := by
  induction h with
  | nil => rfl
  | cons x _ ih => simp [prodL, ih]
  | swap x y l => simp [prodL, Nat.mul_left_comm]
  | trans _ _ h1 h2 => exact h1.trans h2
/-- a list without repetitions, inside another one that is not longer -/
theorem perm_in : ∀ (l s : List Nat), l.Nodup → (∀ x ∈ l, x ∈ s) → s.length ≤ l.length → l.Perm s
  | [], s, _, _, h => by rw [List.eq_nil_of_length_eq_zero (Nat.le_zero.1 h)]
  | a :: l, s, hn, hs, h => by
    obtain ⟨h1, h2⟩ := List.nodup_cons.1 hn
    have ha : a ∈ s := hs a List.mem_cons_self
    have ih := perm_in l (s.erase a) h2 (fun x hx => (List.mem_erase_of_ne (fun e => h1 (by rw [← e]; exact hx))).2 (hs x (List.mem_cons_of_mem _ hx))) (by
      rw [List.length_erase_of_mem ha]
      simp only [List.length_cons] at h
      omega)
    exact (List.Perm.cons a ih).trans (List.perm_cons_erase ha).symm
theorem prodL_map (a p : Nat) : ∀ l : List Nat, prodL (l.map fun i => a * i % p) % p = a ^ l.length * prodL l % p
  | [] => by simp [prodL]
  | x :: l => by
    show (a * x % p) * prodL (l.map fun i => a * i % p) % p = a ^ (l.length + 1) * (x * prodL l) % p
    rw [Nat.mul_mod, Nat.mod_mod, prodL_map a p l, ← Nat.mul_mod, Nat.pow_succ]
    congr 1
    rw [Nat.mul_assoc, Nat.mul_assoc, Nat.mul_left_comm x, Nat.mul_left_comm a]
theorem prodL_ne {p : Nat} (h : noDiv p 2) (hp : 2 ≤ p) : ∀ l : List Nat, (∀ x ∈ l, 0 < x ∧ x < p) → prodL l % p ≠ 0
  | [], _ => by show 1 % p ≠ 0; rw [Nat.mod_eq_of_lt (by omega)]; omega
  | x :: l, hl => by
    have h1 := prodL_ne h hp l (fun y hy => hl y (List.mem_cons_of_mem _ hy))
    have h2 := hl x List.mem_cons_self
    show x * prodL l % p ≠ 0
    rw [Nat.mul_mod, Nat.mod_eq_of_lt h2.2]
    exact prod_ne h hp h2.1 h2.2 (by omega) (Nat.mod_lt _ (by omega))
theorem fermat {p a : Nat} (h : noDiv p 2) (hp : 2 ≤ p) (ha : 0 < a) (hap : a < p) : a ^ (p - 1) % p = 1 := by
  obtain ⟨s, hs⟩ : ∃ s : List Nat, s = (List.range (p - 1)).map (· + 1) := ⟨_, rfl⟩
  have hsm : ∀ x, x ∈ s ↔ 0 < x ∧ x < p := fun x => by
    rw [hs, List.mem_map]
    constructor
    · rintro ⟨i, hi, rfl⟩
      have := List.mem_range.1 hi
      omega
    · intro hx
      exact ⟨x - 1, List.mem_range.2 (by omega), by omega⟩
  have hsl : s.length = p - 1 := by rw [hs]; simp
  have hperm : (s.map fun i => a * i % p).Perm s := by
    refine perm_in _ _ ?_ (fun x hx => ?_) (by rw [List.length_map]; exact Nat.le_refl _)
    · have hlt : s.Pairwise (· < ·) := by
        rw [hs, List.pairwise_map]
        exact List.pairwise_lt_range.imp (fun h => by omega)
      refine List.pairwise_map.2 (List.Pairwise.imp_of_mem (fun {i j} hi hj hij => ?_) hlt)
      intro e
      have hi' := (hsm i).1 hi
      have hj' := (hsm j).1 hj
      have hd := prod_ne h hp ha hap (show 0 < j - i by omega) (show j - i < p by omega)
      refine hd ?_
      rw [Nat.mul_sub]
      exact Nat.sub_mod_eq_zero_of_mod_eq e.symm
    · obtain ⟨i, hi, rfl⟩ := List.mem_map.1 hx
      have hi' := (hsm i).1 hi
      have := prod_ne h hp ha hap hi'.1 hi'.2
      exact (hsm _).2 ⟨by omega, Nat.mod_lt _ (by omega)⟩
  have e1 := prodL_perm hperm
  have e2 := prodL_map a p s
  rw [e1, hsl] at e2
  have hq := prodL_ne h hp s (fun x hx => (hsm x).1 hx)
  obtain ⟨q, hqe⟩ : ∃ q, prodL s % p = q := ⟨_, rfl⟩
  obtain ⟨u, hue⟩ : ∃ u, a ^ (p - 1) % p = u := ⟨_, rfl⟩
  rw [Nat.mul_mod, hqe, hue] at e2
  rw [hqe] at hq
  rw [hue]
  have hqp : q < p := by rw [← hqe]; exact Nat.mod_lt _ (by omega)
  have hup : u < p := by rw [← hue]; exact Nat.mod_lt _ (by omega)
  rcases Nat.lt_or_ge 1 u with h1 | h1
  · exfalso
    have hd := prod_ne h hp (show 0 < u - 1 by omega) (show u - 1 < p by omega) (show 0 < q by omega) hqp
    refine hd ?_
    rw [Nat.sub_mul, Nat.one_mul]
    refine Nat.sub_mod_eq_zero_of_mod_eq ?_
    rw [← e2, Nat.mod_eq_of_lt hqp]
  · rcases Nat.lt_or_ge 0 u with h2 | h2
    · omega
    · exfalso
      have : u = 0 := by omega
      rw [this, Nat.zero_mul, Nat.zero_mod] at e2
      omega
/-- the inverse is one -/
theorem inv_mul {p v : Int} (h : noDiv p.toNat 2) (hp : 2 ≤ p) (hv : 0 < v) (hvp : v < p) : v * invZ v p % p = 1 := by
  obtain ⟨q, rfl⟩ := Int.eq_ofNat_of_zero_le (show 0 ≤ p by omega)
  obtain ⟨a, rfl⟩ := Int.eq_ofNat_of_zero_le (show 0 ≤ v by omega)
  have hf := fermat (p := q) (a := a) h (by omega) (by omega) (by omega)
  have e : invZ (a : Int) (q : Int) = ((a ^ (q - 2) % q : Nat) : Int) := by
    unfold invZ powm
    rw [show ((a : Int)).toNat = a from rfl, show ((q : Int) - 2).toNat = q - 2 by omega, show ((q : Int)).toNat = q from rfl]
  rw [e, ← Int.natCast_mul, ← Int.natCast_emod, Nat.mul_mod_mod, Nat.mul_comm, ← Nat.pow_succ, show (q - 2).succ = q - 1 by omega, hf]
  rfl
end Go.Proofs.YthicfkeiggcjjaaGreatDoor
