import Derived.Test.YthicfkeiggcjjaaGreatDoorEcDlU23
import Derived.BigRegion
import Derived.Deep.QuietTactic
import Derived.Test.YthicfkeiggcjjaaGreatDoorEcDlU21
namespace Go.Proofs.YthicfkeiggcjjaaGreatDoor
open Go Go.RowKit

theorem set_same {α : Type} {l : List α} {i : Nat} {d : α} : l.set i (l.getD i d) = l := by
  refine list_same d (by simp) fun x _ => ?_
  by_cases h : i = x
  · subst h
    by_cases hi : i < l.length
    · simp [List.getD, hi]
    · simp [List.getD, hi]
  · simp [List.getD, h]
theorem set_at {α : Type} {l : List α} {i : Nat} {d a : α} (h : i < l.length) : (l.set i a).getD i d = a := by simp [List.getD, h]
theorem set_off {α : Type} {l : List α} {i j : Nat} {d a : α} (h : ¬ i = j) : (l.set i a).getD j d = l.getD j d := by simp [List.getD, h]
theorem elim_len (p : Int) (col : Nat) (piv row : List Int) : (elimRow p col piv row).length = row.length := by unfold elimRow; split <;> simp
theorem clear_len (p : Int) (top col : Nat) (M : List (List Int)) : (clearM p top col M).length = M.length := by simp [clearM]
/-- what an element becomes -/
theorem elim_step {p v m q : Int} (hp : 2 ≤ p) (hp2 : p ≤ 2147483647) (h1 : 0 ≤ v) (h2 : v < p) (h3 : 0 ≤ m) (h4 : m ≤ p) (h5 : 0 ≤ q) (h6 : q < p) :
    IntKind.i64.wrap (m * q) = m * q ∧ IntKind.i64.wrap (v + m * q) = v + m * q ∧ (v + m * q).tmod p = (v + m * q) % p ∧ 0 ≤ (v + m * q) % p ∧ (v + m * q) % p < p := by
  have a1 : 0 ≤ m * q := Int.mul_nonneg h3 h5
  have a2 : m * q ≤ 2147483647 * 2147483647 := Int.mul_le_mul (by omega) (by omega) h5 (by omega)
  refine ⟨IntWalk.i64_in _ (by omega), IntWalk.i64_in _ (by omega), Int.tmod_eq_emod_of_nonneg (by omega), Int.emod_nonneg _ (by omega), Int.emod_lt_of_pos _ (by omega)⟩

set_option maxRecDepth 100000 in
set_option maxHeartbeats 8000000 in
theorem clearColumn_any (e b cn np col c B : Nat) (qo : Option Addr) (qc : Nat) (p fac : Int) (rs : List (Nat × Nat)) (M : List (List Int)) (w : World) (he : VBlk w e #[.int .i64 p, .slice (some ⟨b, 0, none⟩) rs.length cn, .slice qo np qc, .int .i64 fac] 59) (hM : Mat w b rs c M) (hr : Res p M)
    (hnp : np < rs.length) (hcol : col < c) (_hcn : rs.length ≤ cn) (hcap : ∀ i, i < rs.length → c ≤ (rs.getD i (0, 0)).2) (hp : 2 ≤ p) (hp2 : p ≤ 2147483647) (_heb : e ≠ b) (her : ∀ i, i < rs.length → (rs.getD i (0, 0)).1 ≠ e) (hB : ∀ i, i < rs.length → B ≤ (rs.getD i (0, 0)).1) (hn6 : rs.length ≤ 1000000) (hc6 : c ≤ 1000000) :
    Calls Tryz.prog 62 #[.pointer (some ⟨e, 0, none⟩), .int .i64 col] w fun r w' => (∃ u, r = .returned u) ∧ VBlk w' e #[.int .i64 p, .slice (some ⟨b, 0, none⟩) rs.length cn, .slice qo np qc, .int .i64 fac] 59 ∧ Mat w' b rs c (clearM p np col M) ∧ Keeps B e b rs w w' := by
  obtain ⟨n, hn⟩ : ∃ n, rs.length = n := ⟨_, rfl⟩
  rw [hn] at he hnp _hcn hcap her hB hn6 ⊢
  have HN := Lib.hid hn
  have HLM := Lib.hid (show M.length = n by rw [hM.len, hn])
  have HR := Lib.hid hr
  have HCAP := Lib.hid hcap
  have HER := Lib.hid her
  have HBB := Lib.hid hB
  have HMr := Lib.hid (fun i (h : i < n) => (hM.row i (by rw [hn]; exact h)).2)
  obtain ⟨G, hG⟩ : ∃ G : Nat → List Int, G = fun i => if i = np then M.getD i [] else elimRow p col (M.getD np []) (M.getD i []) := ⟨_, rfl⟩
  have HG := Lib.hid hG
  have HCL := Lib.hid (show clearM p np col M = mixL G M [] n by rw [← HLM.out, mix_all, hG]; rfl)
  have HTOP := Lib.hid (show G np = M.getD np [] by rw [hG]; simp)
  clear hr hcap her hB hG hn
  go_enter Tryz.func62, Tryz.ntmps62
  have HE := Lib.hid he
  have HM := Lib.hid hM
  have e0 := he.c 0
  have e1 := he.c 1
  have e2 := he.c 2
  have k0 := hM.slice (i := np) (by rw [HN.out]; exact hnp)
  have hnpi : (np : Int) < (n : Int) := by omega
  have hcolI : (col : Int) < (c : Int) := by omega
  have hctop := HCAP.out np hnp
  obtain ⟨gt, hgt⟩ : ∃ gt, (rs.getD np (0, 0)).1 = gt := ⟨_, rfl⟩
  obtain ⟨ct, hct⟩ : ∃ ct, (rs.getD np (0, 0)).2 = ct := ⟨_, rfl⟩
  rw [hgt, hct] at k0
  rw [hct] at hctop
  have HGT := Lib.hid hgt
  clear hgt hct he hM
  go_wp2
  go_loopw [6, 7, 8, 9, 27] (fun _ _ _ _ iv wr => ∃ i : Nat, i ≤ n ∧ iv = .int .i64 (i : Int) ∧ VBlk wr e #[.int .i64 p, .slice (some ⟨b, 0, none⟩) n cn, .slice qo np qc, .int .i64 fac] 59 ∧ Mat wr b rs c (mixL G M [] i) ∧ Keeps B e b rs w wr)
    (fun _ _ _ _ iv _ => n - (intOf iv).toNat)
  case atStart => exact ⟨0, Nat.zero_le _, rfl, HE.out, by rw [mix_zero]; exact HM.out, Keeps.refl _ _ _ _ _⟩
  case round =>
    clear e0 e1 e2 k0 HE HM
    obtain ⟨i, hi, rfl, he, hM, hbel⟩ := hrel
    have HBel := Lib.hid hbel
    clear hbel
    by_cases hlt : i < n
    · have him : i < M.length := by rw [HLM.out]; exact hlt
      have hir : i < rs.length := by rw [HN.out]; exact hlt
      have hnm : np < M.length := by rw [HLM.out]; exact hnp
      have hii : (i : Int) < (n : Int) := by omega
      have hrow : (mixL G M [] i).getD i [] = M.getD i [] := by rw [mix_get G M [] i him, if_neg (Nat.lt_irrefl i)]
      have htop : (mixL G M [] i).getD np [] = M.getD np [] := by
        rw [mix_get G M [] i hnm]
        split
        · exact HTOP.out
        · rfl
      have e0 := he.c 0
      have e1 := he.c 1
      have e2 := he.c 2
      have k0 := hM.slice hir
      have hrc := hM.row i hir
      rw [hrow] at hrc
      have hci := HCAP.out i hlt
      have hcz := hrc.1.c (j := col) (by rw [hrc.2]; exact hcol)
      have hvz := HR.out.at him (j := col) (by rw [hrc.2]; exact hcol)
      obtain ⟨gi, hgi⟩ : ∃ gi, (rs.getD i (0, 0)).1 = gi := ⟨_, rfl⟩
      obtain ⟨ci, hcie⟩ : ∃ ci, (rs.getD i (0, 0)).2 = ci := ⟨_, rfl⟩
      rw [hgi, hcie] at k0
      rw [hgi] at hcz
      rw [hcie] at hci
      obtain ⟨v, hv⟩ : ∃ v, (M.getD i []).getD col 0 = v := ⟨_, rfl⟩
      rw [hv] at hcz hvz
      have HGI := Lib.hid hgi
      have HV := Lib.hid hv
      have HE := Lib.hid he
      have HM := Lib.hid hM
      have HRC := Lib.hid hrc.2
      have HROW := Lib.hid hrow
      have HTR := Lib.hid htop
      clear hgi hcie hv he hM hrc hrow htop him hir hnm
      by_cases hit : i = np
      · subst hit
        have HS := Lib.hid (mix_same G M [] (j := i) HTOP.out)
        go_wp2
        go_roundw
        case rel => exact ⟨i + 1, by omega, by go_num, HE.out, by rw [HS.out]; exact HM.out, HBel.out⟩
        case measure => simp [intOf]; omega
      · have hitI : ((i : Int) == (np : Int)) = false := by apply beq_eq_false_iff_ne.2; omega
        by_cases hv0 : v = 0
        · subst hv0
          have HS := Lib.hid (mix_same G M [] (j := i) (by rw [HG.out]; show (if i = np then _ else elimRow p col _ _) = _; rw [if_neg hit]; unfold elimRow; rw [if_pos HV.out]))
          go_wp2
          go_roundw
          case rel => exact ⟨i + 1, by omega, by go_num, HE.out, by rw [HS.out]; exact HM.out, HBel.out⟩
          case measure => simp [intOf]; omega
        · have hvb : (v == 0) = false := beq_eq_false_iff_ne.2 hv0
          obtain ⟨mu, hmu⟩ : ∃ mu, p - v = mu := ⟨_, rfl⟩
          have hw1 : IntKind.i64.wrap (p - v) = mu := by rw [hmu]; exact IntWalk.i64_in _ (by omega)
          have hw1b : IntKind.i64.wrap mu = mu := IntWalk.i64_in _ (by omega)
          have HMU := Lib.hid (show 0 ≤ mu ∧ mu ≤ p by omega)
          have HMV := Lib.hid hmu
          obtain ⟨f, hf⟩ : ∃ f : Nat → Int, f = fun x => ((M.getD i []).getD x 0 + mu * (M.getD np []).getD x 0) % p := ⟨_, rfl⟩
          have HF := Lib.hid hf
          have HGI2 := Lib.hid (show G i = (List.range (M.getD i []).length).map f by
            rw [HG.out]; show (if i = np then _ else elimRow p col _ _) = _
            rw [if_neg hit]; unfold elimRow; rw [HV.out, if_neg hv0, hmu, ← hf])
          clear hmu hf
          go_upto_region 7 with fail
          first | go_region | fail "r7"
          go_wp2
          have HX0 := Lib.hid (show Mat wr.drew b rs c ((mixL G M [] i).set i (mixL f (M.getD i []) 0 0)) from by
            rw [mix_zero, ← HROW.out, set_same]
            exact HM.out.below (Below.refl _ _).drew)
          clear e0 e1 e2 k0 hcz hvz hw1 hw1b hv0 hvb
          go_loopw [9, 58] (fun _ xv wx => ∃ x : Nat, x ≤ c ∧ xv = .int .i64 (x : Int) ∧ VBlk wx e #[.int .i64 p, .slice (some ⟨b, 0, none⟩) n cn, .slice qo np qc, .int .i64 fac] 59 ∧ Mat wx b rs c ((mixL G M [] i).set i (mixL f (M.getD i []) 0 x)) ∧ Keeps B e b rs w wx)
            (fun _ xv _ => c - (intOf xv).toNat)
          case atStart => exact ⟨0, Nat.zero_le _, rfl, HE.out, HX0.out, HBel.out.drew⟩
          case round =>
            clear HX0 HE HM HBel
            obtain ⟨x, hx, rfl, he, hM, hbel⟩ := hrel
            have HBel := Lib.hid hbel
            clear hbel
            have hil : i < (mixL G M [] i).length := by rw [mix_len, HLM.out]; exact hlt
            by_cases hxl : x < c
            · have hxi : (x : Int) < (c : Int) := by omega
              have him : i < M.length := by rw [HLM.out]; exact hlt
              have hir : i < rs.length := by rw [HN.out]; exact hlt
              have hnm : np < M.length := by rw [HLM.out]; exact hnp
              have hnr : np < rs.length := by rw [HN.out]; exact hnp
              have hri := hM.row i hir
              rw [set_at hil] at hri
              have hrn := hM.row np hnr
              rw [set_off hit, HTR.out] at hrn
              have c1 := hri.1.c (j := x) (by rw [hri.2]; exact hxl)
              have c2 := hrn.1.c (j := x) (by rw [hrn.2]; exact hxl)
              have q1 := hri.1.f x
              rw [mix_get f (M.getD i []) 0 x (by rw [HRC.out]; exact hxl), if_neg (Nat.lt_irrefl x)] at c1
              have b1 := HR.out.at him (j := x) (by rw [HRC.out]; exact hxl)
              have b2 := HR.out.at hnm (j := x) (by rw [hrn.2]; exact hxl)
              have e0 := he.c 0
              have hput := hM.put hir hxl (f x)
              rw [set_at hil, List.set_set, mix_set f (M.getD i []) 0 (by rw [HRC.out]; exact hxl)] at hput
              have hon := only_set1 wr (rs.getD i (0, 0)).1 x (.int .i64 (f x))
              have hfx : f x = ((M.getD i []).getD x 0 + mu * (M.getD np []).getD x 0) % p := by rw [HF.out]
              have hbo := Keeps.row (e := e) (b := b) hir (HBB.out i hlt) hon
              have heo := he.only hon (Ne.symm (HER.out i hlt))
              rw [HGI.out] at c1 q1 hput hbo heo
              rw [HGT.out] at c2
              obtain ⟨v1, hv1⟩ : ∃ v1, (M.getD i []).getD x 0 = v1 := ⟨_, rfl⟩
              obtain ⟨v2, hv2⟩ : ∃ v2, (M.getD np []).getD x 0 = v2 := ⟨_, rfl⟩
              rw [hv1] at c1 b1 hfx
              rw [hv2] at c2 b2 hfx
              obtain ⟨s1, s2, s3, s4, s5⟩ := elim_step hp hp2 b1.1 b1.2 HMU.out.1 HMU.out.2 b2.1 b2.2
              obtain ⟨y, hy⟩ : ∃ y, f x = y := ⟨_, rfl⟩
              rw [hy] at hput hbo heo hfx
              obtain ⟨t1, ht1⟩ : ∃ t1, mu * v2 = t1 := ⟨_, rfl⟩
              rw [ht1] at s1 s2 s3 s4 s5 hfx
              obtain ⟨t2, ht2⟩ : ∃ t2, v1 + t1 = t2 := ⟨_, rfl⟩
              rw [ht2] at s2 s3 s4 s5 hfx
              rw [← hfx] at s3 s4 s5
              have s1b : IntKind.i64.wrap (mu * v2) = t1 := by rw [ht1]; exact s1
              have s2b : IntKind.i64.wrap (v1 + t1) = t2 := by rw [ht2]; exact s2
              have s6 : IntKind.i64.wrap y = y := IntWalk.i64_in _ (by omega)
              have s7 : IntKind.i64.wrap (t2.tmod p) = y := by rw [s3]; exact s6
              have hpne : ¬ p = 0 := by omega
              have hpb : (p == 0) = false := beq_eq_false_iff_ne.2 hpne
              have HP := Lib.hid (And.intro hput (And.intro (Keeps.trans HBel.out hbo) heo))
              clear him hir hnm hnr hri hrn hput hon hbo heo hv1 hv2 hy ht1 ht2 hfx s4 s5 hil he hM
              go_upto_region 11 with fail
              first | go_region | fail "r11"
              go_wp2
              go_roundw
              case rel => exact ⟨x + 1, by omega, by go_num, HP.out.2.2, HP.out.1.below (Below.refl _ _).drew, HP.out.2.1.drew⟩
              case measure => simp [intOf]; omega
            · obtain rfl : c = x := by omega
              have HEND := Lib.hid (show (mixL G M [] i).set i (mixL f (M.getD i []) 0 c) = mixL G M [] (i + 1) from by
                rw [← HRC.out, mix_all, ← HGI2.out, mix_set G M [] (by rw [HLM.out]; exact hlt)])
              have HFIN := Lib.hid (And.intro he (And.intro (show Mat wr b rs c (mixL G M [] (i + 1)) from by rw [← HEND.out]; exact hM) HBel.out))
              clear he hM hil
              go_wp2
              go_roundw
              case rel => exact ⟨i + 1, by omega, by go_num, HFIN.out.1, HFIN.out.2.1, HFIN.out.2.2⟩
              case measure => simp [intOf]; omega
    · obtain rfl : n = i := by omega
      have HF := Lib.hid (And.intro he (And.intro hM HBel.out))
      go_wp2
      first | (refine bodyPost_ret (results_none rfl _ _ _) rfl ?_; exact ⟨⟨_, rfl⟩, HF.out.1, by rw [HCL.out]; exact HF.out.2.1, HF.out.2.2⟩) | exact ⟨rfl, _, results_none rfl _ _ _, ⟨_, rfl⟩, HF.out.1, by rw [HCL.out]; exact HF.out.2.1, HF.out.2.2⟩
end Go.Proofs.YthicfkeiggcjjaaGreatDoor

namespace Go.Proofs.YthicfkeiggcjjaaGreatDoor
open Go Go.RowKit

def scaleRow (p inv : Int) (l : List Int) : List Int := (List.range l.length).map fun x => l.getD x 0 * inv % p
def scaleM (p : Int) (np col : Nat) (M : List (List Int)) : List (List Int) := M.set np (scaleRow p (invZ ((M.getD np []).getD col 0) p) (M.getD np []))
theorem mul_step {p v m : Int} (hp : 2 ≤ p) (hp2 : p ≤ 2147483647) (h1 : 0 ≤ v) (h2 : v < p) (h3 : 0 ≤ m) (h4 : m < p) :
    IntKind.i64.wrap (v * m) = v * m ∧ (v * m).tmod p = v * m % p ∧ 0 ≤ v * m % p ∧ v * m % p < p := by
  have a1 : 0 ≤ v * m := Int.mul_nonneg h1 h3
  have a2 : v * m ≤ 2147483647 * 2147483647 := Int.mul_le_mul (by omega) (by omega) h3 (by omega)
  exact ⟨IntWalk.i64_in _ (by omega), Int.tmod_eq_emod_of_nonneg a1, Int.emod_nonneg _ (by omega), Int.emod_lt_of_pos _ (by omega)⟩

set_option maxRecDepth 100000 in
set_option maxHeartbeats 8000000 in
theorem scalePivot_any (e b cn np col c B : Nat) (qo : Option Addr) (qc : Nat) (p fac : Int) (rs : List (Nat × Nat)) (M : List (List Int)) (w : World) (he : VBlk w e #[.int .i64 p, .slice (some ⟨b, 0, none⟩) rs.length cn, .slice qo np qc, .int .i64 fac] 59) (hM : Mat w b rs c M) (hr : Res p M)
    (hnp : np < rs.length) (hcol : col < c) (_hcn : rs.length ≤ cn) (hcap : ∀ i, i < rs.length → c ≤ (rs.getD i (0, 0)).2) (hp : 2 ≤ p) (hp2 : p ≤ 2147483647) (hf : 0 ≤ fac ∧ fac < p) (heb : e ≠ b) (her : ∀ i, i < rs.length → (rs.getD i (0, 0)).1 ≠ e) (hB : ∀ i, i < rs.length → B ≤ (rs.getD i (0, 0)).1) (hBe : B ≤ e) (_hn6 : rs.length ≤ 1000000) (hc6 : c ≤ 1000000) :
    Calls Tryz.prog 61 #[.pointer (some ⟨e, 0, none⟩), .int .i64 col] w fun r w' => (∃ u, r = .returned u) ∧ VBlk w' e #[.int .i64 p, .slice (some ⟨b, 0, none⟩) rs.length cn, .slice qo np qc, .int .i64 (fac * (M.getD np []).getD col 0 % p)] 59 ∧ Mat w' b rs c (scaleM p np col M) ∧ Keeps B e b rs w w' := by
  obtain ⟨n, hn⟩ : ∃ n, rs.length = n := ⟨_, rfl⟩
  rw [hn] at he hnp _hcn hcap her hB _hn6 ⊢
  have hnr : np < rs.length := by rw [hn]; exact hnp
  have hnm : np < M.length := by rw [hM.len]; exact hnr
  have HN := Lib.hid hn
  have HLM := Lib.hid (show M.length = n by rw [hM.len, hn])
  have HR := Lib.hid hr
  have HER := Lib.hid her
  have hrow := hM.row np hnr
  have HRL := Lib.hid hrow.2
  have hcz := hrow.1.c (j := col) (by rw [hrow.2]; exact hcol)
  have hvz := HR.out.at hnm (j := col) (by rw [hrow.2]; exact hcol)
  obtain ⟨gt, hgt⟩ : ∃ gt, (rs.getD np (0, 0)).1 = gt := ⟨_, rfl⟩
  obtain ⟨ct, hct⟩ : ∃ ct, (rs.getD np (0, 0)).2 = ct := ⟨_, rfl⟩
  obtain ⟨v, hv⟩ : ∃ v, (M.getD np []).getD col 0 = v := ⟨_, rfl⟩
  have k0 := hM.slice hnr
  have hctop := hcap np hnp
  have hgB := hB np hnp
  have hge := her np hnp
  have hgb := hM.nb np hnr
  rw [hgt, hct] at k0
  rw [hgt] at hcz hgB hge hgb
  rw [hct] at hctop
  rw [hv] at hcz hvz ⊢
  have HGT := Lib.hid hgt
  have HV := Lib.hid hv
  obtain ⟨inv, hinv⟩ : ∃ inv, invZ v p = inv := ⟨_, rfl⟩
  have hir := invZ_lt (a := v) (p := p) (by omega)
  have CV := Lib.hid (fun w => inverseZ v p w hvz.1 hvz.2 (by omega) hp2)
  rw [hinv] at hir CV
  obtain ⟨f, hfd⟩ : ∃ f : Nat → Int, f = fun x => (M.getD np []).getD x 0 * inv % p := ⟨_, rfl⟩
  have HF := Lib.hid hfd
  have HSC := Lib.hid (show scaleM p np col M = M.set np (mixL f (M.getD np []) 0 (M.getD np []).length) by
    unfold scaleM scaleRow
    rw [hv, hinv, mix_all, hfd])
  have HIR := Lib.hid hir
  have e0 := he.c 0
  have e1 := he.c 1
  have e2 := he.c 2
  have e3 := he.c 3
  have f3 := he.f 3
  have hnpi : (np : Int) < (n : Int) := by omega
  have hcolI : (col : Int) < (c : Int) := by omega
  obtain ⟨s1, s2, s3, s4⟩ := mul_step hp hp2 hf.1 hf.2 hvz.1 hvz.2
  obtain ⟨t1, ht1⟩ : ∃ t1, fac * v = t1 := ⟨_, rfl⟩
  rw [ht1] at s1 s2 s3 s4 ⊢
  obtain ⟨y, hy⟩ : ∃ y, t1 % p = y := ⟨_, rfl⟩
  rw [hy] at s2 s3 s4 ⊢
  have s1b : IntKind.i64.wrap (fac * v) = t1 := by rw [ht1]; exact s1
  have s6 : IntKind.i64.wrap y = y := IntWalk.i64_in _ (by omega)
  have s7 : IntKind.i64.wrap (t1.tmod p) = y := by rw [s2]; exact s6
  have hpne : ¬ p = 0 := by omega
  have hpb : (p == 0) = false := beq_eq_false_iff_ne.2 hpne
  have o1 := only_set1 w e 3 (.int .i64 y)
  have HE := Lib.hid (show VBlk (w.setCell ⟨e, 3, none⟩ (.int .i64 y)) e #[.int .i64 p, .slice (some ⟨b, 0, none⟩) n cn, .slice qo np qc, .int .i64 y] 59 from he.set 3 (.int .i64 y))
  have HM := Lib.hid (hM.only o1 (Ne.symm heb) (fun i hi => HER.out i (by rw [← HN.out]; exact hi)))
  have HBE := Lib.hid (Keeps.he (b := b) (rs := rs) hBe o1)
  clear hr hcap her hB hfd hinv hv hgt hct hn ht1 hy o1 he hM hrow hir hf hvz
  go_enter Tryz.func61, Tryz.ntmps61
  go_upto_region 0 with fail
  first | go_region | fail "r0"
  go_upto_region 1 with fail
  first | go_region | fail "r1"
  clear e0 e1 e2 e3 f3 k0 hcz s1 s2 s3 s4 s1b s6 s7
  generalize w.setCell ⟨e, 3, none⟩ (.int .i64 y) = V at *
  have e0 := HE.out.c 0
  have hrow := HM.out.row np (by rw [HN.out]; exact hnp)
  have hcz := hrow.1.c (j := col) (by rw [hrow.2]; exact hcol)
  rw [HV.out, HGT.out] at hcz
  have HS := Lib.hid (show ∀ wx, Only wx.heap.size V wx → wx.cell? ⟨e, 0, none⟩ = some (.int .i64 p) ∧ wx.cell? ⟨gt, col, none⟩ = some (.int .i64 v) from fun wx h => ⟨(World.cell?_of_block (w := V) (h.block e (by have := HE.out.lt; have := h.size; omega))).trans e0, (World.cell?_of_block (w := V) (h.block gt (by have := lt_of_cell hcz; have := h.size; omega))).trans hcz⟩)
  clear hrow
  go_upto_region 2 with fail
  first | (go_region_held3 (fun wx => wx.cell? ⟨e, 0, none⟩ = some (.int .i64 p) ∧ wx.cell? ⟨gt, col, none⟩ = some (.int .i64 v))
    (first | exact HS.out _ (by repeat (first | exact Only.refl _ _ | refine only_drew ?_)))
    (first | (go_at_call 43; refine (CV.out _).mono ?_; rintro e w9 ⟨rfl, rfl⟩))) | fail "r2"
  clear HS e0 hcz
  go_wp2
  go_loopw [6, 46] (fun _ xv wr => ∃ x : Nat, x ≤ c ∧ xv = .int .i64 (x : Int) ∧ VBlk wr e #[.int .i64 p, .slice (some ⟨b, 0, none⟩) n cn, .slice qo np qc, .int .i64 y] 59 ∧ Mat wr b rs c (M.set np (mixL f (M.getD np []) 0 x)) ∧ Keeps B e b rs w wr)
    (fun _ xv _ => c - (intOf xv).toNat)
  case atStart => exact ⟨0, Nat.zero_le _, rfl, HE.out, by rw [mix_zero, set_same]; exact HM.out.below (by repeat (first | exact Below.refl _ _ | refine Below.drew ?_)), by repeat (first | exact HBE.out | refine Keeps.drew ?_)⟩
  case round =>
    clear HE HM HBE
    obtain ⟨x, hx, rfl, he, hM, hbel⟩ := hrel
    have HBel := Lib.hid hbel
    clear hbel
    by_cases hxl : x < c
    · have hxi : (x : Int) < (c : Int) := by omega
      have hnr : np < rs.length := by rw [HN.out]; exact hnp
      have hnm : np < M.length := by rw [HLM.out]; exact hnp
      have hri := hM.row np hnr
      rw [set_at hnm] at hri
      have c1 := hri.1.c (j := x) (by rw [hri.2]; exact hxl)
      have q1 := hri.1.f x
      rw [mix_get f (M.getD np []) 0 x (by rw [HRL.out]; exact hxl), if_neg (Nat.lt_irrefl x)] at c1
      have b1 := HR.out.at hnm (j := x) (by rw [HRL.out]; exact hxl)
      have e0 := he.c 0
      have hput := hM.put hnr hxl (f x)
      rw [set_at hnm, List.set_set, mix_set f (M.getD np []) 0 (by rw [HRL.out]; exact hxl)] at hput
      have hon := only_set1 wr (rs.getD np (0, 0)).1 x (.int .i64 (f x))
      have hbo := Keeps.row (B := B) (e := e) (b := b) hnr (by rw [HGT.out]; exact hgB) hon
      have hfx : f x = (M.getD np []).getD x 0 * inv % p := by rw [HF.out]
      rw [HGT.out] at c1 q1 hput hon hbo
      have heo := he.only hon (Ne.symm hge)
      obtain ⟨v1, hv1⟩ : ∃ v1, (M.getD np []).getD x 0 = v1 := ⟨_, rfl⟩
      rw [hv1] at c1 b1 hfx
      obtain ⟨s1, s2, s3, s4⟩ := mul_step hp hp2 b1.1 b1.2 HIR.out.1 HIR.out.2
      obtain ⟨y2, hy⟩ : ∃ y2, f x = y2 := ⟨_, rfl⟩
      rw [hy] at hput hbo heo hfx
      obtain ⟨t2, ht2⟩ : ∃ t2, v1 * inv = t2 := ⟨_, rfl⟩
      rw [ht2] at s1 s2 s3 s4 hfx
      rw [← hfx] at s2 s3 s4
      have s1b : IntKind.i64.wrap (v1 * inv) = t2 := by rw [ht2]; exact s1
      have s6 : IntKind.i64.wrap y2 = y2 := IntWalk.i64_in _ (by omega)
      have s7 : IntKind.i64.wrap (t2.tmod p) = y2 := by rw [s2]; exact s6
      have HP := Lib.hid (And.intro hput (And.intro (Keeps.trans HBel.out hbo) heo))
      clear hnr hnm hri hput hon hbo heo hv1 hy ht2 hfx s3 s4 he hM
      go_upto_region 6 with fail
      first | go_region | fail "r6"
      go_wp2
      go_roundw
      case rel => first | exact ⟨x + 1, by omega, by go_num, HP.out.2.2, HP.out.1.below (Below.refl _ _).drew, HP.out.2.1.drew⟩ | exact ⟨x + 1, by omega, by go_num, HP.out.2.2, HP.out.1, HP.out.2.1⟩
      case measure => simp [intOf]; omega
    · obtain rfl : c = x := by omega
      have HFIN := Lib.hid (And.intro he (And.intro (show Mat wr b rs c (scaleM p np col M) from by rw [HSC.out, HRL.out]; exact hM) HBel.out))
      clear he hM
      go_wp2
      first | (refine bodyPost_ret (results_none rfl _ _ _) rfl ?_; exact ⟨⟨_, rfl⟩, HFIN.out.1, HFIN.out.2.1, HFIN.out.2.2⟩) | exact ⟨rfl, _, results_none rfl _ _ _, ⟨_, rfl⟩, HFIN.out.1, HFIN.out.2.1, HFIN.out.2.2⟩
end Go.Proofs.YthicfkeiggcjjaaGreatDoor
