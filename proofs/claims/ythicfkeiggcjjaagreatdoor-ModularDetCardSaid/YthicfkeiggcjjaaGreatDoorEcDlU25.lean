import Derived.Test.YthicfkeiggcjjaaGreatDoorEcDlU24
import Derived.Deep.RegionWith
namespace Go.Proofs.YthicfkeiggcjjaaGreatDoor
open Go Go.RowKit

def swapL {α : Type} (l : List α) (i j : Nat) (d : α) : List α := (l.set i (l.getD j d)).set j (l.getD i d)
def swI (i j k : Nat) : Nat := if k = j then i else if k = i then j else k
theorem swap_len {α : Type} (l : List α) (i j : Nat) (d : α) : (swapL l i j d).length = l.length := by simp [swapL]
theorem swap_get {α : Type} {l : List α} {i j : Nat} (d : α) (hi : i < l.length) (hj : j < l.length) (k : Nat) : (swapL l i j d).getD k d = l.getD (swI i j k) d := by
  unfold swapL swI
  by_cases h1 : k = j
  · subst h1
    rw [if_pos rfl, set_at (by simpa using hj)]
  · rw [if_neg h1, set_off (Ne.symm h1)]
    by_cases h2 : k = i
    · subst h2
      rw [if_pos rfl, set_at hi]
    · rw [if_neg h2, set_off (Ne.symm h2)]
theorem swI_lt {i j k n : Nat} (hi : i < n) (hj : j < n) (hk : k < n) : swI i j k < n := by unfold swI; split <;> (try split) <;> omega
theorem swI_inj {i j k l : Nat} (h : swI i j k = swI i j l) : k = l := by
  unfold swI at h
  repeat' split at h
  all_goals omega
theorem swap_same {α : Type} (l : List α) (i : Nat) (d : α) : swapL l i i d = l := by unfold swapL; rw [List.set_set, set_same]
theorem Mat.swap {w : World} {b : Nat} {rs : List (Nat × Nat)} {c : Nat} {M : List (List Int)} (h : Mat w b rs c M) {i j : Nat} (hi : i < rs.length) (hj : j < rs.length) :
    Mat ((w.setCell ⟨b, i, none⟩ (.slice (some ⟨(rs.getD j (0, 0)).1, 0, none⟩) c (rs.getD j (0, 0)).2)).setCell ⟨b, j, none⟩ (.slice (some ⟨(rs.getD i (0, 0)).1, 0, none⟩) c (rs.getD i (0, 0)).2)) b (swapL rs i j (0, 0)) c (swapL M i j []) := by
  have hmi : i < M.length := by rw [h.len]; exact hi
  have hmj : j < M.length := by rw [h.len]; exact hj
  have o1 := only_set1 w b i (.slice (some ⟨(rs.getD j (0, 0)).1, 0, none⟩) c (rs.getD j (0, 0)).2)
  have o2 := only_set1 (w.setCell ⟨b, i, none⟩ (.slice (some ⟨(rs.getD j (0, 0)).1, 0, none⟩) c (rs.getD j (0, 0)).2)) b j (.slice (some ⟨(rs.getD i (0, 0)).1, 0, none⟩) c (rs.getD i (0, 0)).2)
  have hv := (h.rows.set (j := i) (by simpa using hi) (.slice (some ⟨(rs.getD j (0, 0)).1, 0, none⟩) c (rs.getD j (0, 0)).2)).set (j := j) (by simpa using hj) (.slice (some ⟨(rs.getD i (0, 0)).1, 0, none⟩) c (rs.getD i (0, 0)).2)
  refine ⟨?_, by rw [swap_len, swap_len]; exact h.len, fun k hk => ?_, fun k l hk hl e => ?_, fun k hk => ?_⟩
  · have e : ((rs.map fun g => Value.slice (some ⟨g.1, 0, none⟩) c g.2).set i (.slice (some ⟨(rs.getD j (0, 0)).1, 0, none⟩) c (rs.getD j (0, 0)).2)).set j (.slice (some ⟨(rs.getD i (0, 0)).1, 0, none⟩) c (rs.getD i (0, 0)).2) = (swapL rs i j (0, 0)).map fun g => Value.slice (some ⟨g.1, 0, none⟩) c g.2 := by
      unfold swapL
      rw [List.map_set, List.map_set]
    rwa [e] at hv
  · rw [swap_len] at hk
    rw [swap_get (0, 0) hi hj, swap_get [] hmi hmj]
    obtain ⟨h1, h2⟩ := h.row (swI i j k) (swI_lt hi hj hk)
    have hne := h.nb (swI i j k) (swI_lt hi hj hk)
    exact ⟨(h1.only o1 hne).only o2 hne, h2⟩
  · rw [swap_len] at hk hl
    rw [swap_get (0, 0) hi hj, swap_get (0, 0) hi hj] at e
    exact swI_inj (h.ne _ _ (swI_lt hi hj hk) (swI_lt hi hj hl) e)
  · rw [swap_len] at hk
    rw [swap_get (0, 0) hi hj]
    exact h.nb _ (swI_lt hi hj hk)
/-- the first row from r on that is not zero in the column, or the number behind f of them -/
def findR (M : List (List Int)) (col : Nat) : Nat → Nat → Nat
  | 0, r => r
  | f + 1, r => if (M.getD r []).getD col 0 = 0 then findR M col f (r + 1) else r
theorem findR_go {M : List (List Int)} {col f r : Nat} (h : (M.getD r []).getD col 0 = 0) : findR M col (f + 1) r = findR M col f (r + 1) := by
  conv => lhs; unfold findR
  rw [if_pos h]
theorem findR_at {M : List (List Int)} {col f r : Nat} (h : ¬ (M.getD r []).getD col 0 = 0) : findR M col (f + 1) r = r := by
  conv => lhs; unfold findR
  rw [if_neg h]

/-- what findPivot answers -/
def FindOut (e b cn np col c B R : Nat) (qo : Option Addr) (qc : Nat) (p fac : Int) (rs : List (Nat × Nat)) (M : List (List Int)) (w : World) (r : Ending) (w' : World) : Prop :=
  (R = rs.length → r = .returned (.bool false) ∧ VBlk w' e #[.int .i64 p, .slice (some ⟨b, 0, none⟩) rs.length cn, .slice qo np qc, .int .i64 fac] 59 ∧ Mat w' b rs c M ∧ Keeps B e b rs w w') ∧
      (R ≠ rs.length → np ≤ R ∧ R < rs.length ∧ ¬ (M.getD R []).getD col 0 = 0 ∧ r = .returned (.bool true) ∧ VBlk w' e #[.int .i64 p, .slice (some ⟨b, 0, none⟩) rs.length cn, .slice qo np qc, .int .i64 (if R = np then fac else -fac % p)] 59 ∧ Mat w' b (swapL rs np R (0, 0)) c (swapL M np R []) ∧ Keeps B e b rs w w')

set_option maxRecDepth 100000 in
set_option maxHeartbeats 8000000 in
theorem findPivot_any (e b cn np col c B R : Nat) (qo : Option Addr) (qc : Nat) (p fac : Int) (rs : List (Nat × Nat)) (M : List (List Int)) (w : World) (he : VBlk w e #[.int .i64 p, .slice (some ⟨b, 0, none⟩) rs.length cn, .slice qo np qc, .int .i64 fac] 59) (hM : Mat w b rs c M)
    (hnp : np ≤ rs.length) (hcol : col < c) (_hcn : rs.length ≤ cn) (hcap : ∀ i, i < rs.length → c ≤ (rs.getD i (0, 0)).2) (hp : 2 ≤ p) (hp2 : p ≤ 2147483647) (hf : 0 ≤ fac ∧ fac < p) (heb : e ≠ b) (her : ∀ i, i < rs.length → (rs.getD i (0, 0)).1 ≠ e) (hB : B ≤ b) (hBe : B ≤ e) (hn6 : rs.length ≤ 1000000) (_hc6 : c ≤ 1000000) (hR : findR M col (rs.length - np) np = R) :
    Calls Tryz.prog 60 #[.pointer (some ⟨e, 0, none⟩), .int .i64 col] w (FindOut e b cn np col c B R qo qc p fac rs M w) := by
  obtain ⟨n, hn⟩ : ∃ n, rs.length = n := ⟨_, rfl⟩
  rw [hn] at he hnp hcap her hn6 hR
  have HN := Lib.hid hn
  have HCAP := Lib.hid hcap
  have HE := Lib.hid he
  have HM := Lib.hid hM
  have HR := Lib.hid hR
  have e0 := he.c 0
  have e1 := he.c 1
  have e2 := he.c 2
  have e3 := he.c 3
  have f3 := he.f 3
  obtain ⟨d, hd⟩ : ∃ d, n - np = d := ⟨_, rfl⟩
  have hwd : IntKind.i64.wrap ((n : Int) - (np : Int)) = (d : Int) := by rw [IntWalk.i64_in _ (by omega)]; omega
  have HD := Lib.hid hd
  have hdn : d ≤ n := by omega
  rw [hd] at HR
  clear hcap hn he hM hR hd
  go_enter Tryz.func60, Tryz.ntmps60
  go_wp2
  go_loopw [6, 7, 20] (fun _ _ iv wr => ∃ i : Nat, i ≤ d ∧ iv = .int .i64 (i : Int) ∧ Hid (findR M col (d - i) (np + i) = R) ∧ w = wr)
    (fun _ _ iv _ => d - (intOf iv).toNat)
  case atStart => exact ⟨0, Nat.zero_le _, rfl, Lib.hid (by rw [Nat.sub_zero, Nat.add_zero]; exact HR.out), rfl⟩
  case round =>
    clear HR
    obtain ⟨i, hi, rfl, HR, rfl⟩ := hrel
    by_cases hlt : i < d
    · obtain ⟨r, hr⟩ : ∃ r, np + i = r := ⟨_, rfl⟩
      have hrn : r < n := by have := HD.out; omega
      have hrr : r < rs.length := by rw [HN.out]; exact hrn
      have hwr : IntKind.i64.wrap ((np : Int) + (i : Int)) = (r : Int) := by rw [IntWalk.i64_in _ (by omega)]; omega
      rw [hr] at HR
      have HRI := Lib.hid hr
      have hid : (i : Int) < (d : Int) := by omega
      have hrni : (r : Int) < (n : Int) := by omega
      have hcolI : (col : Int) < (c : Int) := by omega
      have k0 := HM.out.slice hrr
      have hrow := HM.out.row r hrr
      have hcz := hrow.1.c (j := col) (by rw [hrow.2]; exact hcol)
      have hcr := HCAP.out r hrn
      obtain ⟨v, hv⟩ : ∃ v, (M.getD r []).getD col 0 = v := ⟨_, rfl⟩
      have HV := Lib.hid hv
      rw [hv] at hcz
      obtain ⟨gr, hgr⟩ : ∃ gr, (rs.getD r (0, 0)).1 = gr := ⟨_, rfl⟩
      obtain ⟨cr, hcre⟩ : ∃ cr, (rs.getD r (0, 0)).2 = cr := ⟨_, rfl⟩
      rw [hgr, hcre] at k0
      rw [hgr] at hcz
      rw [hcre] at hcr
      have HGR := Lib.hid (And.intro hgr hcre)
      clear hrow hv hr hrr hgr hcre
      by_cases hv0 : v = 0
      · subst hv0
        have HR2 := Lib.hid (show findR M col (d - (i + 1)) (np + (i + 1)) = R from by
          rw [← HR.out, show d - i = (d - (i + 1)) + 1 by omega, findR_go HV.out, ← HRI.out, Nat.add_assoc])
        go_wp2
        go_roundw
        case rel => exact ⟨i + 1, by omega, by go_num, HR2, trivial⟩
        case measure => simp [intOf]; omega
      · have hvb : (v == 0) = false := beq_eq_false_iff_ne.2 hv0
        have HRR := Lib.hid (show R = r from by
          rw [← HR.out, show d - i = (d - (i + 1)) + 1 by omega, findR_at (by rw [HV.out]; exact hv0)])
        have HVN := Lib.hid (show ¬ (M.getD r []).getD col 0 = 0 from by rw [HV.out]; exact hv0)
        by_cases hi0 : i = 0
        · subst hi0
          obtain rfl : np = r := by have := HRI.out; omega
          have HFIN := Lib.hid (And.intro HE.out HM.out)
          go_wp2
          go_ret
          unfold FindOut
          rw [HN.out, HRR.out]
          refine ⟨fun h => absurd h (by omega), fun _ => ⟨Nat.le_refl _, hrn, HVN.out, rfl, ?_, ?_, Keeps.refl _ _ _ _ _⟩⟩
          · rw [if_pos rfl]; exact HFIN.out.1
          · rw [swap_same, swap_same]; exact HFIN.out.2
        · have hrnp : ¬ r = np := by have := HRI.out; omega
          have hrb : ((r : Int) == (np : Int)) = false := by apply beq_eq_false_iff_ne.2; omega
          have hrb2 : ((r : Int) != (np : Int)) = true := by simp only [bne, hrb]; rfl
          have hnn : np < n := by have := HRI.out; omega
          have hler : np ≤ r := by have := HRI.out; omega
          have hnr : np < rs.length := by rw [HN.out]; exact hnn
          have hrr : r < rs.length := by rw [HN.out]; exact hrn
          have k1 := HM.out.slice hnr
          have fb0 := HM.out.rows.f np
          have fb1 := HM.out.rows.f r
          have hsw := HM.out.swap hnr hrr
          obtain ⟨gn, hgn⟩ : ∃ gn, (rs.getD np (0, 0)).1 = gn := ⟨_, rfl⟩
          obtain ⟨cq, hcq⟩ : ∃ cq, (rs.getD np (0, 0)).2 = cq := ⟨_, rfl⟩
          rw [hgn, hcq] at k1 hsw
          rw [HGR.out.1, HGR.out.2] at hsw
          have o1 := only_set1 w b np (.slice (some ⟨gr, 0, none⟩) c cr)
          have o2 := only_set1 (w.setCell ⟨b, np, none⟩ (.slice (some ⟨gr, 0, none⟩) c cr)) b r (.slice (some ⟨gn, 0, none⟩) c cq)
          have he2 := (HE.out.only o1 heb).only o2 heb
          have HB2 := Lib.hid (Keeps.trans (Keeps.hb (e := e) (rs := rs) hB o1) (Keeps.hb hB o2))
          have hnpi : (np : Int) < (n : Int) := by omega
          have n1 : ¬ np = r := fun h => hrnp h.symm
          have hwf : IntKind.i64.wrap (-fac) = -fac := IntWalk.i64_in _ (by omega)
          have HSW := Lib.hid hsw
          have HE2 := Lib.hid he2
          clear hgn hcq o1 o2 hnr hrr hsw he2
          go_upto_region 8 with fail
          first | go_region | fail "r8"
          go_upto_region 9 with fail
          have HSWd := Lib.hid (HSW.out.below (Below.refl _ _).drew)
          have HE2d := Lib.hid (show VBlk ((w.setCell ⟨b, np, none⟩ (.slice (some ⟨gr, 0, none⟩) c cr)).setCell ⟨b, r, none⟩ (.slice (some ⟨gn, 0, none⟩) c cq)).drew e #[.int .i64 p, .slice (some ⟨b, 0, none⟩) n cn, .slice qo np qc, .int .i64 fac] 59 from HE2.out)
          have HB2d := Lib.hid HB2.out.drew
          clear HSW HE2 HB2 e0 e1 e2 e3 f3 k0 k1 fb0 fb1 hcz
          generalize ((w.setCell ⟨b, np, none⟩ (.slice (some ⟨gr, 0, none⟩) c cr)).setCell ⟨b, r, none⟩ (.slice (some ⟨gn, 0, none⟩) c cq)).drew = V at *
          have e0 := HE2d.out.c 0
          have e3 := HE2d.out.c 3
          have f3 := HE2d.out.f 3
          obtain ⟨y, hy⟩ : ∃ y, -fac % p = y := ⟨_, rfl⟩
          have CRS := Lib.hid (fun wx => residue_any (-fac) p wx (by omega) (by omega))
          rw [hy] at CRS
          have o3 := only_set1 V e 3 (.int .i64 y)
          have HE3 := Lib.hid (show VBlk (V.setCell ⟨e, 3, none⟩ (.int .i64 y)) e #[.int .i64 p, .slice (some ⟨b, 0, none⟩) n cn, .slice qo np qc, .int .i64 y] 59 from HE2d.out.set 3 (.int .i64 y))
          have HM3 := Lib.hid (show np < rs.length → r < rs.length → Mat (V.setCell ⟨e, 3, none⟩ (.int .i64 y)) b (swapL rs np r (0, 0)) c (swapL M np r []) from fun h1 h2 => HSWd.out.only o3 (Ne.symm heb) (fun k hk => by rw [swap_len] at hk; rw [swap_get (0, 0) h1 h2]; exact her _ (swI_lt hnn hrn (by rw [HN.out] at hk; exact hk))))
          have HB3 := Lib.hid (Keeps.trans HB2d.out (Keeps.he hBe o3))
          have HY := Lib.hid hy
          clear hy o3
          first | (go_region_with (first | (go_at_call 38; refine (CRS.out _).mono ?_; rintro e w9 ⟨rfl, rfl⟩))) | fail "r9"
          all_goals
            go_wp2
            go_ret
          all_goals
            unfold FindOut
            rw [HN.out, HRR.out]
            refine ⟨fun h => absurd h (by omega), fun _ => ⟨hler, hrn, HVN.out, rfl, ?_, ?_, ?_⟩⟩
            · rw [if_neg hrnp, HY.out]; exact HE3.out
            · exact (HM3.out (by rw [HN.out]; exact hnn) (by rw [HN.out]; exact hrn)).below (by repeat (first | exact Below.refl _ _ | refine Below.drew ?_))
            · repeat (first | exact HB3.out | refine Keeps.drew ?_)
    · obtain rfl : d = i := by omega
      have HRR := Lib.hid (show R = n from by
        have := HR.out
        rw [Nat.sub_self] at this
        have h2 := HD.out
        rw [← this]
        show np + d = n
        omega)
      have HFIN := Lib.hid (And.intro HE.out HM.out)
      go_wp2
      go_ret
      unfold FindOut
      rw [HN.out]
      exact ⟨fun _ => ⟨rfl, HFIN.out.1, HFIN.out.2, Keeps.refl _ _ _ _ _⟩, fun h => absurd HRR.out h⟩
end Go.Proofs.YthicfkeiggcjjaaGreatDoor
