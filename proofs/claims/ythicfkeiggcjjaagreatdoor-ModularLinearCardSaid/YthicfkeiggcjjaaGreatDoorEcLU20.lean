import Derived.Test.YthicfkeiggcjjaaGreatDoorEcLU19
import Derived.BigRegion
import Derived.Deep.QuietTactic
import Derived.Test.YthicfkeiggcjjaaGreatDoorEcLU17
import Derived.Test.YthicfkeiggcjjaaGreatDoorEcLU15
import Derived.Test.YthicfkeiggcjjaaGreatDoorEcLU7
import Derived.Deep.RegionHeld3
import Derived.Test.YthicfkeiggcjjaaGreatDoorEcLU3
import Derived.Laws.AppendOwn
import Derived.OwnWalk
import Derived.Deep.RegionLaw
import Derived.Deep.CutRange
namespace Go.Proofs.YthicfkeiggcjjaaGreatDoor
open Go Go.RowKit

theorem set_same {α : Type} {l : List α} {i : Nat} {d : α} : l.set i (l.getD i d) = l := by
  refine list_same d (by simp) fun x _ => ?_
  by_cases h : i = x
  · subst h
    by_cases hi : i < l.length
    · simp [List.getD, hi]
    · simp [List.getD, hi]
  · simp [List.getD, h]
theorem set_at {α : Type} {l : List α} {i : Nat} {d a : α} (h : i < l.length) : (l.set i a).getD i d = a := by simp [List.getD, h]
theorem set_off {α : Type} {l : List α} {i j : Nat} {d a : α} (h : ¬ i = j) : (l.set i a).getD j d = l.getD j d := by simp [List.getD, h]
theorem elim_len (p : Int) (col : Nat) (piv row : List Int) : (elimRow p col piv row).length = row.length := by unfold elimRow; split <;> simp
theorem clear_len (p : Int) (top col : Nat) (M : List (List Int)) : (clearM p top col M).length = M.length := by simp [clearM]
/-- what an element becomes -/
theorem elim_step {p v m q : Int} (hp : 2 ≤ p) (hp2 : p ≤ 2147483647) (h1 : 0 ≤ v) (h2 : v < p) (h3 : 0 ≤ m) (h4 : m ≤ p) (h5 : 0 ≤ q) (h6 : q < p) :
    IntKind.i64.wrap (m * q) = m * q ∧ IntKind.i64.wrap (v + m * q) = v + m * q ∧ (v + m * q).tmod p = (v + m * q) % p ∧ 0 ≤ (v + m * q) % p ∧ (v + m * q) % p < p := by
  have a1 : 0 ≤ m * q := Int.mul_nonneg h3 h5
  have a2 : m * q ≤ 2147483647 * 2147483647 := Int.mul_le_mul (by omega) (by omega) h5 (by omega)
  refine ⟨IntWalk.i64_in _ (by omega), IntWalk.i64_in _ (by omega), Int.tmod_eq_emod_of_nonneg (by omega), Int.emod_nonneg _ (by omega), Int.emod_lt_of_pos _ (by omega)⟩

set_option maxRecDepth 100000 in
set_option maxHeartbeats 8000000 in
theorem clearColumn_any (e b cn np col c B : Nat) (qo : Option Addr) (qc : Nat) (p fac : Int) (rs : List (Nat × Nat)) (M : List (List Int)) (w : World) (he : VBlk w e #[.int .i64 p, .slice (some ⟨b, 0, none⟩) rs.length cn, .slice qo np qc, .int .i64 fac] 59) (hM : Mat w b rs c M) (hr : Res p M)
    (hnp : np < rs.length) (hcol : col < c) (_hcn : rs.length ≤ cn) (hcap : ∀ i, i < rs.length → c ≤ (rs.getD i (0, 0)).2) (hp : 2 ≤ p) (hp2 : p ≤ 2147483647) (_heb : e ≠ b) (her : ∀ i, i < rs.length → (rs.getD i (0, 0)).1 ≠ e) (hB : ∀ i, i < rs.length → B ≤ (rs.getD i (0, 0)).1) (hn6 : rs.length ≤ 1000000) (hc6 : c ≤ 1000000) :
    Calls Tryz.prog 62 #[.pointer (some ⟨e, 0, none⟩), .int .i64 col] w fun r w' => (∃ u, r = .returned u) ∧ VBlk w' e #[.int .i64 p, .slice (some ⟨b, 0, none⟩) rs.length cn, .slice qo np qc, .int .i64 fac] 59 ∧ Mat w' b rs c (clearM p np col M) ∧ Keeps B e b rs w w' := by
  obtain ⟨n, hn⟩ : ∃ n, rs.length = n := ⟨_, rfl⟩
  rw [hn] at he hnp _hcn hcap her hB hn6 ⊢
  have HN := Lib.hid hn
  have HLM := Lib.hid (show M.length = n by rw [hM.len, hn])
  have HR := Lib.hid hr
  have HCAP := Lib.hid hcap
  have HER := Lib.hid her
  have HBB := Lib.hid hB
  have HMr := Lib.hid (fun i (h : i < n) => (hM.row i (by rw [hn]; exact h)).2)
  obtain ⟨G, hG⟩ : ∃ G : Nat → List Int, G = fun i => if i = np then M.getD i [] else elimRow p col (M.getD np []) (M.getD i []) := ⟨_, rfl⟩
  have HG := Lib.hid hG
  have HCL := Lib.hid (show clearM p np col M = mixL G M [] n by rw [← HLM.out, mix_all, hG]; rfl)
  have HTOP := Lib.hid (show G np = M.getD np [] by rw [hG]; simp)
  clear hr hcap her hB hG hn
  go_enter Tryz.func62, Tryz.ntmps62
  have HE := Lib.hid he
  have HM := Lib.hid hM
  have e0 := he.c 0
  have e1 := he.c 1
  have e2 := he.c 2
  have k0 := hM.slice (i := np) (by rw [HN.out]; exact hnp)
  have hnpi : (np : Int) < (n : Int) := by omega
  have hcolI : (col : Int) < (c : Int) := by omega
  have hctop := HCAP.out np hnp
  obtain ⟨gt, hgt⟩ : ∃ gt, (rs.getD np (0, 0)).1 = gt := ⟨_, rfl⟩
  obtain ⟨ct, hct⟩ : ∃ ct, (rs.getD np (0, 0)).2 = ct := ⟨_, rfl⟩
  rw [hgt, hct] at k0
  rw [hct] at hctop
  have HGT := Lib.hid hgt
  clear hgt hct he hM
  go_wp2
  go_loopw [6, 7, 8, 9, 27] (fun _ _ _ _ iv wr => ∃ i : Nat, i ≤ n ∧ iv = .int .i64 (i : Int) ∧ VBlk wr e #[.int .i64 p, .slice (some ⟨b, 0, none⟩) n cn, .slice qo np qc, .int .i64 fac] 59 ∧ Mat wr b rs c (mixL G M [] i) ∧ Keeps B e b rs w wr)
    (fun _ _ _ _ iv _ => n - (intOf iv).toNat)
  case atStart => exact ⟨0, Nat.zero_le _, rfl, HE.out, by rw [mix_zero]; exact HM.out, Keeps.refl _ _ _ _ _⟩
  case round =>
    clear e0 e1 e2 k0 HE HM
    obtain ⟨i, hi, rfl, he, hM, hbel⟩ := hrel
    have HBel := Lib.hid hbel
    clear hbel
    by_cases hlt : i < n
    · have him : i < M.length := by rw [HLM.out]; exact hlt
      have hir : i < rs.length := by rw [HN.out]; exact hlt
      have hnm : np < M.length := by rw [HLM.out]; exact hnp
      have hii : (i : Int) < (n : Int) := by omega
      have hrow : (mixL G M [] i).getD i [] = M.getD i [] := by rw [mix_get G M [] i him, if_neg (Nat.lt_irrefl i)]
      have htop : (mixL G M [] i).getD np [] = M.getD np [] := by
        rw [mix_get G M [] i hnm]
        split
        · exact HTOP.out
        · rfl
      have e0 := he.c 0
      have e1 := he.c 1
      have e2 := he.c 2
      have k0 := hM.slice hir
      have hrc := hM.row i hir
      rw [hrow] at hrc
      have hci := HCAP.out i hlt
      have hcz := hrc.1.c (j := col) (by rw [hrc.2]; exact hcol)
      have hvz := HR.out.at him (j := col) (by rw [hrc.2]; exact hcol)
      obtain ⟨gi, hgi⟩ : ∃ gi, (rs.getD i (0, 0)).1 = gi := ⟨_, rfl⟩
      obtain ⟨ci, hcie⟩ : ∃ ci, (rs.getD i (0, 0)).2 = ci := ⟨_, rfl⟩
      rw [hgi, hcie] at k0
      rw [hgi] at hcz
      rw [hcie] at hci
      obtain ⟨v, hv⟩ : ∃ v, (M.getD i []).getD col 0 = v := ⟨_, rfl⟩
      rw [hv] at hcz hvz
      have HGI := Lib.hid hgi
      have HV := Lib.hid hv
      have HE := Lib.hid he
      have HM := Lib.hid hM
      have HRC := Lib.hid hrc.2
      have HROW := Lib.hid hrow
      have HTR := Lib.hid htop
      clear hgi hcie hv he hM hrc hrow htop him hir hnm
      by_cases hit : i = np
      · subst hit
        have HS := Lib.hid (mix_same G M [] (j := i) HTOP.out)
        go_wp2
        go_roundw
        case rel => exact ⟨i + 1, by omega, by go_num, HE.out, by rw [HS.out]; exact HM.out, HBel.out⟩
        case measure => simp [intOf]; omega
      · have hitI : ((i : Int) == (np : Int)) = false := by apply beq_eq_false_iff_ne.2; omega
        by_cases hv0 : v = 0
        · subst hv0
          have HS := Lib.hid (mix_same G M [] (j := i) (by rw [HG.out]; show (if i = np then _ else elimRow p col _ _) = _; rw [if_neg hit]; unfold elimRow; rw [if_pos HV.out]))
          go_wp2
          go_roundw
          case rel => exact ⟨i + 1, by omega, by go_num, HE.out, by rw [HS.out]; exact HM.out, HBel.out⟩
          case measure => simp [intOf]; omega
        · have hvb : (v == 0) = false := beq_eq_false_iff_ne.2 hv0
          obtain ⟨mu, hmu⟩ : ∃ mu, p - v = mu := ⟨_, rfl⟩
          have hw1 : IntKind.i64.wrap (p - v) = mu := by rw [hmu]; exact IntWalk.i64_in _ (by omega)
          have hw1b : IntKind.i64.wrap mu = mu := IntWalk.i64_in _ (by omega)
          have HMU := Lib.hid (show 0 ≤ mu ∧ mu ≤ p by omega)
          have HMV := Lib.hid hmu
          obtain ⟨f, hf⟩ : ∃ f : Nat → Int, f = fun x => ((M.getD i []).getD x 0 + mu * (M.getD np []).getD x 0) % p := ⟨_, rfl⟩
          have HF := Lib.hid hf
          have HGI2 := Lib.hid (show G i = (List.range (M.getD i []).length).map f by
            rw [HG.out]; show (if i = np then _ else elimRow p col _ _) = _
            rw [if_neg hit]; unfold elimRow; rw [HV.out, if_neg hv0, hmu, ← hf])
          clear hmu hf
          go_upto_region 7 with fail
          first | go_region | fail "r7"
          go_wp2
          have HX0 := Lib.hid (show Mat wr.drew b rs c ((mixL G M [] i).set i (mixL f (M.getD i []) 0 0)) from by
            rw [mix_zero, ← HROW.out, set_same]
            exact HM.out.below (Below.refl _ _).drew)
          clear e0 e1 e2 k0 hcz hvz hw1 hw1b hv0 hvb
          go_loopw [9, 58] (fun _ xv wx => ∃ x : Nat, x ≤ c ∧ xv = .int .i64 (x : Int) ∧ VBlk wx e #[.int .i64 p, .slice (some ⟨b, 0, none⟩) n cn, .slice qo np qc, .int .i64 fac] 59 ∧ Mat wx b rs c ((mixL G M [] i).set i (mixL f (M.getD i []) 0 x)) ∧ Keeps B e b rs w wx)
            (fun _ xv _ => c - (intOf xv).toNat)
          case atStart => exact ⟨0, Nat.zero_le _, rfl, HE.out, HX0.out, HBel.out.drew⟩
          case round =>
            clear HX0 HE HM HBel
            obtain ⟨x, hx, rfl, he, hM, hbel⟩ := hrel
            have HBel := Lib.hid hbel
            clear hbel
            have hil : i < (mixL G M [] i).length := by rw [mix_len, HLM.out]; exact hlt
            by_cases hxl : x < c
            · have hxi : (x : Int) < (c : Int) := by omega
              have him : i < M.length := by rw [HLM.out]; exact hlt
              have hir : i < rs.length := by rw [HN.out]; exact hlt
              have hnm : np < M.length := by rw [HLM.out]; exact hnp
              have hnr : np < rs.length := by rw [HN.out]; exact hnp
              have hri := hM.row i hir
              rw [set_at hil] at hri
              have hrn := hM.row np hnr
              rw [set_off hit, HTR.out] at hrn
              have c1 := hri.1.c (j := x) (by rw [hri.2]; exact hxl)
              have c2 := hrn.1.c (j := x) (by rw [hrn.2]; exact hxl)
              have q1 := hri.1.f x
              rw [mix_get f (M.getD i []) 0 x (by rw [HRC.out]; exact hxl), if_neg (Nat.lt_irrefl x)] at c1
              have b1 := HR.out.at him (j := x) (by rw [HRC.out]; exact hxl)
              have b2 := HR.out.at hnm (j := x) (by rw [hrn.2]; exact hxl)
              have e0 := he.c 0
              have hput := hM.put hir hxl (f x)
              rw [set_at hil, List.set_set, mix_set f (M.getD i []) 0 (by rw [HRC.out]; exact hxl)] at hput
              have hon := only_set1 wr (rs.getD i (0, 0)).1 x (.int .i64 (f x))
              have hfx : f x = ((M.getD i []).getD x 0 + mu * (M.getD np []).getD x 0) % p := by rw [HF.out]
              have hbo := Keeps.row (e := e) (b := b) hir (HBB.out i hlt) hon
              have heo := he.only hon (Ne.symm (HER.out i hlt))
              rw [HGI.out] at c1 q1 hput hbo heo
              rw [HGT.out] at c2
              obtain ⟨v1, hv1⟩ : ∃ v1, (M.getD i []).getD x 0 = v1 := ⟨_, rfl⟩
              obtain ⟨v2, hv2⟩ : ∃ v2, (M.getD np []).getD x 0 = v2 := ⟨_, rfl⟩
              rw [hv1] at c1 b1 hfx
              rw [hv2] at c2 b2 hfx
              obtain ⟨s1, s2, s3, s4, s5⟩ := elim_step hp hp2 b1.1 b1.2 HMU.out.1 HMU.out.2 b2.1 b2.2
              obtain ⟨y, hy⟩ : ∃ y, f x = y := ⟨_, rfl⟩
              rw [hy] at hput hbo heo hfx
              obtain ⟨t1, ht1⟩ : ∃ t1, mu * v2 = t1 := ⟨_, rfl⟩
              rw [ht1] at s1 s2 s3 s4 s5 hfx
              obtain ⟨t2, ht2⟩ : ∃ t2, v1 + t1 = t2 := ⟨_, rfl⟩
              rw [ht2] at s2 s3 s4 s5 hfx
              rw [← hfx] at s3 s4 s5
              have s1b : IntKind.i64.wrap (mu * v2) = t1 := by rw [ht1]; exact s1
              have s2b : IntKind.i64.wrap (v1 + t1) = t2 := by rw [ht2]; exact s2
              have s6 : IntKind.i64.wrap y = y := IntWalk.i64_in _ (by omega)
              have s7 : IntKind.i64.wrap (t2.tmod p) = y := by rw [s3]; exact s6
              have hpne : ¬ p = 0 := by omega
              have hpb : (p == 0) = false := beq_eq_false_iff_ne.2 hpne
              have HP := Lib.hid (And.intro hput (And.intro (Keeps.trans HBel.out hbo) heo))
              clear him hir hnm hnr hri hrn hput hon hbo heo hv1 hv2 hy ht1 ht2 hfx s4 s5 hil he hM
              go_upto_region 11 with fail
              first | go_region | fail "r11"
              go_wp2
              go_roundw
              case rel => exact ⟨x + 1, by omega, by go_num, HP.out.2.2, HP.out.1.below (Below.refl _ _).drew, HP.out.2.1.drew⟩
              case measure => simp [intOf]; omega
            · obtain rfl : c = x := by omega
              have HEND := Lib.hid (show (mixL G M [] i).set i (mixL f (M.getD i []) 0 c) = mixL G M [] (i + 1) from by
                rw [← HRC.out, mix_all, ← HGI2.out, mix_set G M [] (by rw [HLM.out]; exact hlt)])
              have HFIN := Lib.hid (And.intro he (And.intro (show Mat wr b rs c (mixL G M [] (i + 1)) from by rw [← HEND.out]; exact hM) HBel.out))
              clear he hM hil
              go_wp2
              go_roundw
              case rel => exact ⟨i + 1, by omega, by go_num, HFIN.out.1, HFIN.out.2.1, HFIN.out.2.2⟩
              case measure => simp [intOf]; omega
    · obtain rfl : n = i := by omega
      have HF := Lib.hid (And.intro he (And.intro hM HBel.out))
      go_wp2
      first | (refine bodyPost_ret (results_none rfl _ _ _) rfl ?_; exact ⟨⟨_, rfl⟩, HF.out.1, by rw [HCL.out]; exact HF.out.2.1, HF.out.2.2⟩) | exact ⟨rfl, _, results_none rfl _ _ _, ⟨_, rfl⟩, HF.out.1, by rw [HCL.out]; exact HF.out.2.1, HF.out.2.2⟩
end Go.Proofs.YthicfkeiggcjjaaGreatDoor

namespace Go.Proofs.YthicfkeiggcjjaaGreatDoor
open Go.RowKit

/-- no divisor below d -/
def NoBelow (n d : Nat) : Prop := ∀ e, 2 ≤ e → e < d → e * e ≤ n → n % e ≠ 0

set_option maxRecDepth 100000 in
set_option maxHeartbeats 4000000 in
theorem refIsPrime_any (p : Int) (w : World) :
    Calls Tryz.prog 39 #[.int .i64 p] w fun e w' => e = .returned (.bool (isP p)) ∧ w = w' := by
  by_cases h1 : p < 2
  · have hr : isP p = false := isP_of (by simp; omega)
    rw [hr]
    clear hr
    go_enter Tryz.func39, Tryz.ntmps39
    go_wp2
    go_ret
    exact ⟨rfl, rfl⟩
  by_cases h2 : 2147483647 < p
  · have hr : isP p = false := isP_of (by simp; omega)
    rw [hr]
    clear hr
    go_enter Tryz.func39, Tryz.ntmps39
    go_wp2
    go_ret
    exact ⟨rfl, rfl⟩
  obtain ⟨n, rfl⟩ := Int.eq_ofNat_of_zero_le (show 0 ≤ p by omega)
  obtain ⟨R, hR⟩ : ∃ R, isP (n : Int) = R := ⟨_, rfl⟩
  rw [hR]
  have HR := Lib.hid (show R = true ↔ noDiv n 2 by rw [← hR, isP_iff]; exact ⟨fun h => h.2.2, fun h => ⟨by omega, by omega, h⟩⟩)
  clear hR
  go_enter Tryz.func39, Tryz.ntmps39
  go_wp2
  go_loopw [3] (fun iv wr => ∃ d : Int, 2 ≤ d ∧ d ≤ 46341 ∧ iv = .int .i64 d ∧ Hid (NoBelow n d.toNat) ∧ w = wr)
    (fun iv _ => 46341 - (intOf iv).toNat)
  case atStart => exact ⟨2, by omega, by omega, rfl, Lib.hid (fun e h1 h2 => absurd h2 (by simp; omega)), rfl⟩
  case round =>
    obtain ⟨d, hd, hd1, rfl, HI, rfl⟩ := hrel
    have hdd : d * d ≤ 46341 * 46341 := Int.mul_le_mul hd1 hd1 (by omega) (by omega)
    have hdd0 : 0 ≤ d * d := Int.mul_nonneg (by omega) (by omega)
    obtain ⟨D, hD⟩ : ∃ D, d * d = D := ⟨_, rfl⟩
    have hw : IntKind.i64.wrap D = D := IntWalk.i64_in _ (by omega)
    have hdn : d = (d.toNat : Int) := by omega
    have hDn : D = ((d.toNat * d.toNat : Nat) : Int) := by rw [← hD, Int.natCast_mul, ← hdn]
    rw [hD] at hdd hdd0
    by_cases hle : D ≤ (n : Int)
    · have hd3 : d ≤ 46340 := by
        rcases Int.lt_or_le d 46341 with h | h
        · omega
        · have := Int.mul_le_mul h h (by omega) (by omega)
          omega
      have ht : (n : Int).tmod d = (n : Int) % d := Int.tmod_eq_emod_of_nonneg (by omega)
      obtain ⟨z, hz⟩ : ∃ z, (n : Int) % d = z := ⟨_, rfl⟩
      have hzn : z = ((n % d.toNat : Nat) : Int) := by rw [← hz, Int.natCast_emod, ← hdn]
      rw [hz] at ht
      have hz0 := Int.emod_nonneg (n : Int) (show d ≠ 0 by omega)
      rw [hz] at hz0
      by_cases h0 : z = 0
      · have hr : R = false := by
          cases hc : R with
          | false => rfl
          | true => exact absurd (show n % d.toNat = 0 by omega) (HR.out.1 hc d.toNat (by omega) (by omega))
        subst hr
        subst h0
        clear hz hzn hz0 HI HR hDn hdn
        go_wp2
        go_ret
        exact ⟨rfl, rfl⟩
      · have hn : NoBelow n (d + 1).toNat := by
          intro e he he1 hee
          rcases Nat.lt_or_ge e d.toNat with h | h
          · exact HI.out e he h hee
          · obtain rfl : e = d.toNat := by omega
            omega
        have HN := Lib.hid hn
        clear hz hzn hz0 HI HR hDn hdn hn
        go_wp2
        go_roundw
        case rel => exact ⟨d + 1, by omega, by omega, rfl, HN, trivial⟩
        case measure => simp [intOf]; omega
    · have hr : R = true := HR.out.2 fun e he hee => HI.out e he (by
        rcases Nat.lt_or_ge e d.toNat with h | h
        · exact h
        · have := Nat.mul_le_mul h h; omega) hee
      subst hr
      clear HI HR hDn hdn
      go_wp2
      go_ret
      exact ⟨rfl, rfl⟩
end Go.Proofs.YthicfkeiggcjjaaGreatDoor

namespace Go.Proofs.YthicfkeiggcjjaaGreatDoor
open Go.RowKit

/-- a raw integer at hand: its value, its sign, its limbs -/
structure REnt where
  v : Value
  nb : Bool
  zs : List Int
def REnt.Ok (w : World) (p : REnt) : Prop := ∃ ao n ca, p.v = .agg #[.bool p.nb, .slice ao n ca] ∧ Sl w ao n ca p.zs
theorem REnt.Ok.ext {w w' : World} {p : REnt} (h : p.Ok w) (he : Ext w w') : p.Ok w' := by
  obtain ⟨ao, n, ca, h1, h2⟩ := h
  exact ⟨ao, n, ca, h1, h2.below he⟩
theorem REnt.Ok.only_box {w w' : World} {p : REnt} {g : Nat} {nb : Bool} {ao : Option Addr} {n ca : Nat} (h : p.Ok w) (hb : Box w g nb ao n ca) (ho : Only g w w') : p.Ok w' := by
  obtain ⟨ao, n, ca, h1, h2⟩ := h
  exact ⟨ao, n, ca, h1, h2.only_box hb ho⟩
structure RSt (W w : World) (L : List REnt) : Prop where
  ext : Ext W w
  bag : ∀ p ∈ L, p.Ok w
theorem RSt.step {W w w' : World} {L : List REnt} (h : RSt W w L) (he : Ext w w') : RSt W w' L := ⟨h.ext.trans he, fun p hp => (h.bag p hp).ext he⟩
theorem RSt.drew {W w : World} {L : List REnt} (h : RSt W w L) : RSt W w.drew L := h.step (Below.refl _ _).drew
theorem RSt.alloc {W w : World} {L : List REnt} (h : RSt W w L) (o : Obj) : RSt W (w.alloc o) L := h.step ((Below.refl _ w).alloc (Nat.le_refl _) o)
theorem RSt.stored {W w : World} {L : List REnt} {g : Nat} {nb : Bool} {ao : Option Addr} {n ca : Nat} (h : RSt W w L) (hb : Box w g nb ao n ca) (hg : W.heap.size ≤ g) (mb : Bool) (bo : Option Addr) (m cb : Nat) :
    RSt W ((w.setCell ⟨g, 0, none⟩ (.bool mb)).setCell ⟨g, 1, none⟩ (.slice bo m cb)) L :=
  ⟨Below.trans h.ext ((only_set2 w g _ _).below hg), fun p hp => (h.bag p hp).only_box hb (only_set2 w g _ _)⟩

/-- both variables are written -/
theorem bpair_stored {W w : World} {L : List REnt} {g h : Nat} {xn yn : Bool} {xo yo : Option Addr} {xk xc yk yc : Nat} {an bn : Bool} {ao bo : Option Addr} {ak ac bk bc : Nat}
    (hg : Box w g an ao ak ac) (hh : Box w h bn bo bk bc) (hne : g ≠ h) (hst : RSt W w L) (h1 : W.heap.size ≤ g) (h2 : W.heap.size ≤ h) :
    Box ((((w.setCell ⟨g, 0, none⟩ (.bool xn)).setCell ⟨g, 1, none⟩ (.slice xo xk xc)).setCell ⟨h, 0, none⟩ (.bool yn)).setCell ⟨h, 1, none⟩ (.slice yo yk yc)) g xn xo xk xc ∧
    Box ((((w.setCell ⟨g, 0, none⟩ (.bool xn)).setCell ⟨g, 1, none⟩ (.slice xo xk xc)).setCell ⟨h, 0, none⟩ (.bool yn)).setCell ⟨h, 1, none⟩ (.slice yo yk yc)) h yn yo yk yc ∧
    RSt W ((((w.setCell ⟨g, 0, none⟩ (.bool xn)).setCell ⟨g, 1, none⟩ (.slice xo xk xc)).setCell ⟨h, 0, none⟩ (.bool yn)).setCell ⟨h, 1, none⟩ (.slice yo yk yc)) L := by
  have a := hg.stored xn xo xk xc
  have b := hh.only (only_set2 w g (.bool xn) (.slice xo xk xc)) (Ne.symm hne)
  have s := hst.stored hg h1 xn xo xk xc
  exact ⟨a.only (only_set2 _ h _ _) hne, b.stored yn yo yk yc, s.stored b h2 yn yo yk yc⟩

theorem ext_allocB (w : World) (o : Obj) : Ext w (w.alloc o) := (Below.refl _ _).alloc (Nat.le_refl _) o
theorem ext_drewB (w : World) : Ext w w.drew := (Below.refl _ _).drew
theorem sizeB {a b : World} (h : Ext a b) : a.heap.size ≤ b.heap.size := Below.size h
theorem bbox_new1v (w : World) (o : Obj) (nb : Bool) (ao : Option Addr) (n ca : Nat) : Box ((w.alloc o).alloc (.cells #[.bool nb, .slice ao n ca] 52)) (w.heap.size + 1) nb ao n ca := by
  have := Box.new (w.alloc o) nb ao n ca
  simpa using this
theorem bbox_in1 {w wn : World} (h : Ext (w.alloc (.cells #[.bool false, .slice none 0 0] 52)) wn) : Box wn w.heap.size false none 0 0 := (Box.new w _ _ _ _).below h
theorem bbox_in2 {w wn : World} (h : Ext ((w.alloc (.cells #[.bool false, .slice none 0 0] 52)).alloc (.cells #[.bool false, .slice none 0 0] 52)) wn) :
    Box wn w.heap.size false none 0 0 ∧ Box wn (w.heap.size + 1) false none 0 0 :=
  ⟨((Box.new w _ _ _ _).below (ext_allocB _ _)).below h, (bbox_new1v w _ false none 0 0).below h⟩
theorem bbox_in1d {w wn : World} (h : Ext (w.alloc (.cells #[.bool false, .slice none 0 0] 52)).drew wn) : Box wn w.heap.size false none 0 0 := bbox_in1 ((ext_drewB _).trans h)
theorem bbox_in2d {w wn : World} (h : Ext ((w.alloc (.cells #[.bool false, .slice none 0 0] 52)).alloc (.cells #[.bool false, .slice none 0 0] 52)).drew wn) :
    Box wn w.heap.size false none 0 0 ∧ Box wn (w.heap.size + 1) false none 0 0 := bbox_in2 ((ext_drewB _).trans h)
theorem bbox_new_set (w : World) (g : Nat) (u v : Value) (nb : Bool) (ao : Option Addr) (n ca : Nat) :
    Box (((w.setCell ⟨g, 0, none⟩ u).setCell ⟨g, 1, none⟩ v).alloc (.cells #[.bool nb, .slice ao n ca] 52)) w.heap.size nb ao n ca := by
  have := Box.new ((w.setCell ⟨g, 0, none⟩ u).setCell ⟨g, 1, none⟩ v) nb ao n ca
  rwa [(only_set2 w g u v).size] at this

theorem bcells_only {w w' : World} {g B : Nat} {a b : Option Value} (ho : Only g w w') (hne : g ≠ B) (h : w.cell? ⟨B, 0, none⟩ = a ∧ w.cell? ⟨B, 1, none⟩ = b) : w'.cell? ⟨B, 0, none⟩ = a ∧ w'.cell? ⟨B, 1, none⟩ = b := by
  have e : ∀ i, w'.cell? ⟨B, i, none⟩ = w.cell? ⟨B, i, none⟩ := fun i => World.cell?_of_block (w := w) (ho.block B (Ne.symm hne))
  rw [e, e]
  exact h
theorem bcells_stored {w : World} {g B : Nat} {u v : Value} {a b : Option Value} (hne : g ≠ B) (h : w.cell? ⟨B, 0, none⟩ = a ∧ w.cell? ⟨B, 1, none⟩ = b) :
    ((w.setCell ⟨g, 0, none⟩ u).setCell ⟨g, 1, none⟩ v).cell? ⟨B, 0, none⟩ = a ∧ ((w.setCell ⟨g, 0, none⟩ u).setCell ⟨g, 1, none⟩ v).cell? ⟨B, 1, none⟩ = b := bcells_only (only_set2 w g u v) hne h
theorem bcells_alloc {w : World} {B : Nat} {o : Obj} {a b : Value} (h : w.cell? ⟨B, 0, none⟩ = some a ∧ w.cell? ⟨B, 1, none⟩ = some b) : (w.alloc o).cell? ⟨B, 0, none⟩ = some a ∧ (w.alloc o).cell? ⟨B, 1, none⟩ = some b := by
  obtain ⟨h0, h1⟩ := h
  have hb := lt_of_cell h0
  refine ⟨?_, ?_⟩
  · rw [World.cell?_alloc_past _ _ _ hb]; exact h0
  · rw [World.cell?_alloc_past _ _ _ hb]; exact h1
theorem bcells_drew {w : World} {B : Nat} {a b : Option Value} (h : w.cell? ⟨B, 0, none⟩ = a ∧ w.cell? ⟨B, 1, none⟩ = b) : w.drew.cell? ⟨B, 0, none⟩ = a ∧ w.drew.cell? ⟨B, 1, none⟩ = b := h

/-- both variables are laid behind the calls -/
theorem bfin_new {W w : World} {L : List REnt} {xn yn : Bool} {xo yo : Option Addr} {xk xc yk yc : Nat} (h : RSt W w L) :
    Box ((w.alloc (.cells #[.bool xn, .slice xo xk xc] 52)).alloc (.cells #[.bool yn, .slice yo yk yc] 52)) w.heap.size xn xo xk xc ∧ Box ((w.alloc (.cells #[.bool xn, .slice xo xk xc] 52)).alloc (.cells #[.bool yn, .slice yo yk yc] 52)) (w.heap.size + 1) yn yo yk yc ∧ RSt W ((w.alloc (.cells #[.bool xn, .slice xo xk xc] 52)).alloc (.cells #[.bool yn, .slice yo yk yc] 52)) L :=
  ⟨(Box.new w xn xo xk xc).below (ext_allocB _ _), bbox_new1v _ _ yn yo yk yc, (h.alloc _).alloc _⟩
/-- one is laid behind the calls -/
theorem bfin_mix {W w : World} {L : List REnt} {g : Nat} {xn yn : Bool} {xo yo : Option Addr} {xk xc yk yc : Nat} {an : Bool} {ao : Option Addr} {ak ac : Nat} (h : RSt W w L) (hx : Box w g an ao ak ac) (hg : W.heap.size ≤ g) :
    Box (((w.setCell ⟨g, 0, none⟩ (.bool xn)).setCell ⟨g, 1, none⟩ (.slice xo xk xc)).alloc (.cells #[.bool yn, .slice yo yk yc] 52)) g xn xo xk xc ∧ Box (((w.setCell ⟨g, 0, none⟩ (.bool xn)).setCell ⟨g, 1, none⟩ (.slice xo xk xc)).alloc (.cells #[.bool yn, .slice yo yk yc] 52)) w.heap.size yn yo yk yc ∧ RSt W (((w.setCell ⟨g, 0, none⟩ (.bool xn)).setCell ⟨g, 1, none⟩ (.slice xo xk xc)).alloc (.cells #[.bool yn, .slice yo yk yc] 52)) L :=
  ⟨(hx.stored xn xo xk xc).below (ext_allocB _ _), bbox_new_set _ _ _ _ yn yo yk yc, (h.stored hx hg xn xo xk xc).alloc _⟩

end Go.Proofs.YthicfkeiggcjjaaGreatDoor
