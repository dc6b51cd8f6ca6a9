import Derived.Test.YthicfkeiggcjjaaGreatDoorEcSlU26
import Derived.Test.YthicfkeiggcjjaaGreatDoorEcSlU27
namespace Go.Proofs.YthicfkeiggcjjaaGreatDoor
open Go Go.RowKit

/-- the first column without a pivot -/
def freeL (L : List Int) : Nat → Nat → Nat
  | 0, i => i
  | f + 1, i => if L.getD i 0 = (i : Int) then freeL L f (i + 1) else i
theorem freeL_go {L : List Int} {f i : Nat} (h : L.getD i 0 = (i : Int)) : freeL L (f + 1) i = freeL L f (i + 1) := by
  conv => lhs; unfold freeL
  rw [if_pos h]
theorem freeL_at {L : List Int} {f i : Nat} (h : ¬ L.getD i 0 = (i : Int)) : freeL L (f + 1) i = i := by
  conv => lhs; unfold freeL
  rw [if_neg h]
theorem freeL_le (L : List Int) : ∀ f i, freeL L f i ≤ i + f
  | 0, i => Nat.le_refl _
  | f + 1, i => by
    unfold freeL
    split
    · have := freeL_le L f (i + 1); omega
    · omega

set_option maxRecDepth 100000 in
set_option maxHeartbeats 8000000 in
theorem firstFree_any (e b n cn np : Nat) (qo : Option Addr) (qc R : Nat) (p fac : Int) (L : List Int) (w : World) (he : VBlk w e #[.int .i64 p, .slice (some ⟨b, 0, none⟩) n cn, .slice qo np qc, .int .i64 fac] 59) (hL : Ns w qo np qc L) (hn6 : np ≤ 1000000) (hR : freeL L np 0 = R) :
    Calls Tryz.prog 37 #[.pointer (some ⟨e, 0, none⟩)] w fun r w' => r = .returned (.int .i64 (R : Int)) ∧ w = w' := by
  have HR := Lib.hid hR
  have HL := Lib.hid hL
  have e0 := he.c 0
  have e1 := he.c 1
  have e2 := he.c 2
  have e3 := he.c 3
  clear he hL hR
  go_enter Tryz.func37, Tryz.ntmps37
  go_wp2
  go_loopw [3, 9] (fun _ iv wr => ∃ i : Nat, i ≤ np ∧ iv = .int .i64 (i : Int) ∧ Hid (freeL L (np - i) i = R) ∧ w = wr) (fun _ iv _ => np - (intOf iv).toNat)
  case atStart => exact ⟨0, Nat.zero_le _, rfl, Lib.hid (by rw [Nat.sub_zero]; exact HR.out), rfl⟩
  case round =>
    clear HR
    obtain ⟨i, hi, rfl, HR, rfl⟩ := hrel
    by_cases hlt : i < np
    · obtain ⟨a, off, rfl, hc⟩ := HL.out.cells (by omega)
      have c1 := hc i hlt
      obtain ⟨x, hx⟩ : ∃ x, L.getD i 0 = x := ⟨_, rfl⟩
      rw [hx] at c1
      have HX := Lib.hid hx
      have hii : (i : Int) < (np : Int) := by omega
      clear hc hx
      by_cases hxi : x = (i : Int)
      · subst hxi
        have HR2 := Lib.hid (show freeL L (np - (i + 1)) (i + 1) = R by rw [← HR.out, show np - i = (np - (i + 1)) + 1 by omega, freeL_go HX.out])
        go_wp2
        go_roundw
        case rel => exact ⟨i + 1, by omega, by go_num, HR2, trivial⟩
        case measure => simp [intOf]; omega
      · have hR1 : R = i := by rw [← HR.out, show np - i = (np - (i + 1)) + 1 by omega, freeL_at (by rw [HX.out]; exact hxi)]
        have hne : (x != (i : Int)) = true := by simpa using hxi
        have HRI := Lib.hid hR1
        clear hR1
        go_wp2
        go_ret
        exact ⟨by rw [HRI.out]; rfl, rfl⟩
    · obtain rfl : np = i := by omega
      have HRI := Lib.hid (show R = np by have := HR.out; rw [Nat.sub_self] at this; exact this.symm)
      go_wp2
      go_ret
      exact ⟨by rw [HRI.out]; rfl, rfl⟩

theorem freeL_spec (L : List Int) : ∀ f i x, i ≤ x → x < freeL L f i → L.getD x 0 = (x : Int)
  | 0, i, x, h1, h2 => by unfold freeL at h2; omega
  | f + 1, i, x, h1, h2 => by
    unfold freeL at h2
    split at h2
    · rename_i h
      by_cases hx : x = i
      · subst hx; exact h
      · exact freeL_spec L f (i + 1) x (by omega) h2
    · omega
theorem EOk.reduce {p : Int} {n c : Nat} (hp : 2 ≤ p) : ∀ k col (S : Ech), EOk p n c S → EOk p n c (reduceE p k col S)
  | 0, _, _, h => h
  | k + 1, col, _, h => EOk.reduce hp k (col + 1) _ (h.step hp)
theorem step_cols {p : Int} {col : Nat} {S : Ech} (h : ∀ x ∈ S.L, x < (col : Int)) : ∀ x ∈ (stepE p col S).L, x < ((col + 1 : Nat) : Int) := by
  intro x hx
  unfold stepE at hx
  simp only at hx
  split at hx
  · have := h x hx; omega
  · simp only [List.mem_append, List.mem_singleton] at hx
    rcases hx with hx | rfl
    · have := h x hx; omega
    · omega
theorem reduce_cols {p : Int} : ∀ (k col : Nat) (S : Ech), (∀ x ∈ S.L, x < (col : Int)) → ∀ x ∈ (reduceE p k col S).L, x < ((col + k : Nat) : Int)
  | 0, col, S, h => h
  | k + 1, col, S, h => fun x hx => by
    have := reduce_cols k (col + 1) _ (step_cols (p := p) h) x hx
    omega
theorem free_le {p : Int} {c R : Nat} {N : List (List Int)} {S : Ech} (hS : reduceE p c 0 ⟨N, [], 1⟩ = S) (hR : freeL S.L S.L.length 0 = R) : R ≤ c ∧ R ≤ S.L.length := by
  have h1 := freeL_le S.L S.L.length 0
  rw [hR] at h1
  refine ⟨?_, by omega⟩
  rcases Nat.lt_or_ge c R with h | h
  · exfalso
    have h2 := freeL_spec S.L S.L.length 0 c (Nat.zero_le _) (by rw [hR]; exact h)
    have hcl : c < S.L.length := by omega
    have h3 : S.L.getD c 0 ∈ S.L := by simp [List.getD, hcl]
    have h4 := reduce_cols (p := p) c 0 ⟨N, [], 1⟩ (fun x hx => by cases hx) (S.L.getD c 0) (by rw [hS]; exact h3)
    omega
  · exact h
/-- the vector of the kernel that belongs to the first free column -/
def kerL (p : Int) (c : Nat) (S : Ech) (R : Nat) : List Int := if R = c then [] else (List.range c).map fun x => if x < R then -((S.M.getD x []).getD R 0) % p else if x = R then 1 else 0
theorem res_ok {p : Int} {n c : Nat} {M : List (List Int)} (hp : 2 ≤ p) (hl : M.length = n) (hrow : ∀ i, i < n → (M.getD i []).length = c) : EOk p n c ⟨resM p M, [], 1⟩ := by
  have hg : ∀ i, i < n → (resM p M).getD i [] = resRow p (M.getD i []) := fun i hi => by simp [resM, List.getD, hl, hi]
  refine ⟨by simp [resM, hl], fun i hi => by rw [hg i hi]; simp [resRow]; exact hrow i hi, ?_, Nat.zero_le _, by simp only; omega⟩
  intro l hl2 x hx
  simp only [resM, List.mem_map] at hl2
  obtain ⟨l0, _, rfl⟩ := hl2
  simp only [resRow, List.mem_map] at hx
  obtain ⟨x0, _, rfl⟩ := hx
  exact ⟨Int.emod_nonneg _ (by omega), Int.emod_lt_of_pos _ (by omega)⟩
theorem OZ.nsE {w : World} {B k : Nat} {qo : Option Addr} {qc : Nat} {L : List Int} (h : OZ w B (.slice qo k qc) L) : k = L.length ∧ Ns w qo k qc L := by
  by_cases h0 : L = []
  · subst h0
    obtain ⟨ao, cap, e⟩ := h.slE
    cases e
    obtain ⟨h1, h2⟩ := h
    rcases h2 with ⟨e, _⟩ | ⟨g, cap', cur, e, hb, hg, hn, _⟩
    · cases e
      exact ⟨rfl, rfl, Nat.le_refl _, fun h => absurd h (by simp)⟩
    · cases e
      exact ⟨rfl, rfl, hn, fun h => absurd h (by simp)⟩
  · obtain ⟨ao, cap, e, hns⟩ := h.ns h0
    cases e
    exact ⟨rfl, hns⟩

set_option maxRecDepth 100000 in
set_option maxHeartbeats 8000000 in
theorem kernel_yes (ao : Option Addr) (n cap c R : Nat) (M : List (List Int)) (S : Ech) (p : Int) (w : World) (hm : Nss w ao n cap M) (hT : Table64 w) (hp : mr p = true) (hrow : ∀ i, i < n → (M.getD i []).length = c) (hw : widthM M = c) (hn : n ≤ 200) (hc : c ≤ 200)
    (hS : reduceE p c 0 ⟨resM p M, [], 1⟩ = S) (hR : freeL S.L S.L.length 0 = R) :
    Calls Tryz.prog 13 #[.slice ao n cap, .int .i64 p] w fun r w' => ∃ vo vk vc, r = .returned (.tuple #[.slice vo vk vc, .int .i64 0]) ∧ Ns w' vo vk vc (kerL p c S R) ∧ Ext w w' := by
  obtain ⟨p2, p3⟩ := mr_bounds hp
  have CRS := Lib.hid (residues_yes ao n cap c M p w hm hT hp hrow hw hn hc)
  have hok := res_ok (p := p) (by omega) hm.len hrow
  have HOK := Lib.hid hok
  have HOS := Lib.hid (show EOk p n c S by rw [← hS]; exact hok.reduce (by omega) c 0 _)
  have HFL := Lib.hid (free_le hS hR)
  have CW := Lib.hid (fun wx (h : Ext w wx) => width_any ao n cap M wx (hm.below h))
  rw [hw] at CW
  have HS := Lib.hid hS
  have HR := Lib.hid hR
  obtain ⟨OI, hmi, hvi⟩ := make_ints c (by omega)
  have HVI := Lib.hid (rowB_zeros hvi)
  clear hm hT hp hrow hw hok hS hR hvi
  go_enter Tryz.func13, Tryz.ntmps13
  go_wp2_with fail
  refine CRS.out.mono ?_
  rintro r w1 ⟨b, rs, rfl, hM, hrl, hcp, hbB, hE⟩
  clear CRS
  have HE1 := Lib.hid hE
  go_wp2_with fail
  refine (CW.out _ HE1.out).mono ?_
  rintro r w2 ⟨rfl, rfl⟩
  clear CW
  go_wp2_with fail
  refine (echReduce_any b n c c w.heap.size n p rs (resM p M) S w1 hM HOK.out hrl (Nat.le_refl _) (Nat.le_refl _) (fun i hi => (hcp i hi).1) (by omega) p3 (fun i hi => (hcp i hi).2) hbB (Below.size HE1.out) (by omega) (by omega) HS.out).mono ?_
  rintro r w2 ⟨rs', qo, qk, qc, rfl, hM2, hrl2, hoz, hB2⟩
  obtain ⟨rfl, hns⟩ := hoz.nsE
  have HE2 := Lib.hid (show Ext w w2 from Below.trans HE1.out hB2)
  clear hM hrl hcp hbB hE hoz hB2 HOK HS
  go_upto_region 6 with fail
  obtain ⟨e, he⟩ : ∃ e, w2.heap.size = e := ⟨_, rfl⟩
  have hbl := hM2.rows.lt
  have hv := VBlk.new w2 #[.int .i64 p, .slice (some ⟨b, 0, none⟩) n n, .slice qo S.L.length qc, .int .i64 S.f] 59
  have hEa : Ext w2 (w2.alloc (.cells #[.int .i64 p, .slice (some ⟨b, 0, none⟩) n n, .slice qo S.L.length qc, .int .i64 S.f] 59)) := (Below.refl _ _).alloc (Nat.le_refl _) _
  have hM2 := hM2.below hEa
  have hns := hns.below hEa
  have HE3 := Lib.hid (HE2.out.trans hEa)
  rw [he] at hv
  rw [he]
  generalize hV : w2.alloc (.cells #[.int .i64 p, .slice (some ⟨b, 0, none⟩) n n, .slice qo S.L.length qc, .int .i64 S.f] 59) = V at *
  clear hV hEa hbl
  have hpl := HOS.out.pl
  have CFF := firstFree_any e b n n S.L.length qo qc R p S.f S.L V hv hns (by omega) HR.out
  clear hpl
  go_wp2_with fail
  refine CFF.mono ?_
  rintro r w3 ⟨rfl, rfl⟩
  clear CFF hns
  by_cases hRc : R = c
  · subst hRc
    have HK := Lib.hid (show kerL p R S R = [] from by unfold kerL; rw [if_pos rfl])
    clear hv hM2
    go_wp2
    refine bodyPost_ret (v := .tuple #[.slice none 0 0, .int .i64 0]) (by simp [results, Tryz.results13, go_sem]) rfl ⟨none, 0, 0, rfl, ?_, HE3.out⟩
    rw [HK.out]
    exact ⟨rfl, Nat.le_refl _, fun h => absurd h (by simp)⟩
  · have hRb : ((R : Int) == (c : Int)) = false := by apply beq_eq_false_iff_ne.2; omega
    have hRl : R < c := by have := HFL.out.1; omega
    have hRi : (R : Int) < (c : Int) := by omega
    have hEo : Ext V (V.alloc OI) := (Below.refl _ _).alloc (Nat.le_refl _) _
    have hrow := HVI.out V
    obtain ⟨g, hg⟩ : ∃ g, V.heap.size = g := ⟨_, rfl⟩
    rw [hg] at hrow
    have q0 := hrow.c (j := R) (by simpa using hRl)
    have q1 := hrow.f R
    have q0 : (V.alloc OI).cell? ⟨g, R, none⟩ = some (.int .i64 0) := by rw [q0]; simp [List.getD, hRl]
    have hset := hrow.set (j := R) (by simpa using hRl) 1
    have ho := only_set1 (V.alloc OI) g R (.int .i64 1)
    have HG := Lib.hid (show w.heap.size ≤ g from by rw [← hg]; exact Below.size HE3.out)
    have HE4 := Lib.hid (show Ext w ((V.alloc OI).setCell ⟨g, R, none⟩ (.int .i64 1)) from Below.trans (HE3.out.trans hEo) (ho.below HG.out))
    have hne : ∀ i, i < rs'.length → (rs'.getD i (0, 0)).1 ≠ g := fun i hi => by have := (hM2.row i hi).1.lt; omega
    have hM4 := (hM2.below hEo).only ho (by have := hM2.rows.lt; omega) hne
    have hv4 := (hv.below hEo).only ho (by have := hv.lt; omega)
    have HNE := Lib.hid (And.intro hne (And.intro (show b ≠ g by have := hM2.rows.lt; omega) (show e ≠ g by have := hv.lt; omega)))
    have HM4 := Lib.hid hM4
    have HV4 := Lib.hid hv4
    have HROW := Lib.hid hset
    obtain ⟨f, hf⟩ : ∃ f : Nat → Int, f = fun x => -((S.M.getD x []).getD R 0) % p := ⟨_, rfl⟩
    have HF := Lib.hid hf
    have HK := Lib.hid (show kerL p c S R = mixL f ((List.replicate c 0).set R 1) 0 R from by
      unfold kerL
      rw [if_neg hRc, hf]
      unfold mixL
      rw [List.length_set, List.length_replicate]
      refine List.map_congr_left fun x hx => ?_
      have hxc : x < c := by simpa using hx
      by_cases hxR : x < R
      · rw [if_pos hxR, if_pos hxR]
      · rw [if_neg hxR, if_neg hxR]
        by_cases hxe : x = R
        · subst hxe; rw [if_pos rfl, set_at (by simpa using hxc)]
        · rw [if_neg hxe, set_off (Ne.symm hxe)]; simp [List.getD, hxc])
    clear hrow hset ho hEo hne hM4 hv4 hM2 hv hf
    go_upto_region 10 with fail
    clear hg hmi
    go_wp2
    clear q0 q1
    generalize (V.alloc OI).setCell ⟨g, R, none⟩ (.int .i64 1) = W at *
    go_loopw [12, 38] (fun _ iv wr => ∃ i : Nat, i ≤ R ∧ iv = .int .i64 (i : Int) ∧ VBlk wr e #[.int .i64 p, .slice (some ⟨b, 0, none⟩) n n, .slice qo S.L.length qc, .int .i64 S.f] 59 ∧ Mat wr b rs' c S.M ∧ RowB wr g (mixL f ((List.replicate c 0).set R 1) 0 i) ∧ Ext w wr)
      (fun _ iv _ => R - (intOf iv).toNat)
    case atStart => exact ⟨0, Nat.zero_le _, rfl, HV4.out, HM4.out, by rw [mix_zero]; exact HROW.out, HE4.out⟩
    case round =>
      clear HV4 HM4 HROW HE4
      obtain ⟨i, hi, rfl, hv, hM, hrow, hEx⟩ := hrel
      have HEX := Lib.hid hEx
      by_cases hlt : i < R
      · have hin : i < n := by have := HFL.out.2; have := HOS.out.pl; omega
        have hir : i < rs'.length := by rw [hrl2]; exact hin
        have hic : i < c := by omega
        have e1 := hv.c 1
        have k0 := hM.slice hir
        have hri := hM.row i hir
        have c1 := hri.1.c (j := R) (by rw [hri.2]; exact hRl)
        have hbd := HOS.out.res.at (i := i) (j := R) (by rw [HOS.out.len]; exact hin) (by rw [hri.2]; exact hRl)
        have q0 := hrow.c (j := i) (by rw [mix_len]; simpa using hic)
        have q1 := hrow.f i
        have hset := hrow.set (j := i) (by rw [mix_len]; simpa using hic) (f i)
        rw [mix_set f _ 0 (by simpa using hic)] at hset
        have ho := only_set1 wr g i (.int .i64 (f i))
        have HVN := Lib.hid (hv.only ho HNE.out.2.2)
        have HMN := Lib.hid (hM.only ho HNE.out.2.1 HNE.out.1)
        have HRN := Lib.hid hset
        have HEN := Lib.hid (show Ext w (wr.setCell ⟨g, i, none⟩ (.int .i64 (f i))) from Below.trans hEx (ho.below HG.out))
        have hfx : f i = -((S.M.getD i []).getD R 0) % p := by rw [HF.out]
        obtain ⟨v, hvv⟩ : ∃ v, (S.M.getD i []).getD R 0 = v := ⟨_, rfl⟩
        rw [hvv] at c1 hbd hfx
        obtain ⟨y, hy⟩ : ∃ y, f i = y := ⟨_, rfl⟩
        rw [hy] at HVN HMN HEN HRN hfx
        have CRS := Lib.hid (fun wx => residue_any (-v) p wx (by omega) (by omega))
        rw [← hfx] at CRS
        have hwn : IntKind.i64.wrap (-v) = -v := IntWalk.i64_in _ (by omega)
        obtain ⟨gi, hgi⟩ : ∃ gi, (rs'.getD i (0, 0)).1 = gi := ⟨_, rfl⟩
        obtain ⟨ci, hci⟩ : ∃ ci, (rs'.getD i (0, 0)).2 = ci := ⟨_, rfl⟩
        rw [hgi, hci] at k0
        rw [hgi] at c1
        obtain ⟨u0, hu0⟩ : ∃ u0, (mixL f ((List.replicate c 0).set R 1) 0 i).getD i 0 = u0 := ⟨_, rfl⟩
        rw [hu0] at q0
        have hRi2 : (i : Int) < (R : Int) := by omega
        have hini : (i : Int) < (n : Int) := by omega
        have hici : (i : Int) < (c : Int) := by omega
        clear hir hri hbd hset ho hvv hy hgi hci hu0 hv hM hrow hEx hfx
        go_upto_region 14 with fail
        first
          | (go_wp2_with fail
             refine (CRS.out _).mono ?_
             rintro r w4 ⟨rfl, rfl⟩
             go_wp2
             go_roundw)
          | (go_region_with (first | (go_at_call 38; refine (CRS.out _).mono ?_; rintro e w9 ⟨rfl, rfl⟩))
             all_goals
               go_wp2
               go_roundw)
        any_goals (simp [intOf]; omega)
        all_goals exact ⟨i + 1, by omega, by go_num, by repeat (first | exact HVN.out | exact (show VBlk _ e _ _ from HVN.out)), by first | exact HMN.out | exact HMN.out.below (by repeat (first | exact Below.refl _ _ | refine Below.drew ?_)), by first | exact HRN.out | exact HRN.out.below (by repeat (first | exact Below.refl _ _ | refine Below.drew ?_)), by repeat (first | exact HEN.out | refine Below.drew ?_)⟩
      · obtain rfl : R = i := by omega
        have HNS := Lib.hid (show Ns wr (some ⟨g, 0, none⟩) c c (kerL p c S R) from by
          rw [HK.out]
          refine ⟨by rw [mix_len]; simp, Nat.le_refl _, fun _ => ⟨g, 0, rfl, fun j hj => ?_⟩⟩
          rw [Nat.zero_add]
          exact hrow.c (by rw [mix_len]; simpa using hj))
        clear hv hM hrow hEx
        go_wp2
        refine bodyPost_ret (v := .tuple #[.slice (some ⟨g, 0, none⟩) c c, .int .i64 0]) (by simp [results, Tryz.results13, go_sem]) rfl ⟨_, _, _, rfl, HNS.out, HEX.out⟩
end Go.Proofs.YthicfkeiggcjjaaGreatDoor
