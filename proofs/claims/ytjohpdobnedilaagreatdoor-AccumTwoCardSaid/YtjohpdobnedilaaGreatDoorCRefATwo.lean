/- What the reference's rest, TwoSum and TwoMul do. -/
import Derived.Test.YtjohpdobnedilaaGreatDoorHh
import Derived.Test.YtjohpdobnedilaaGreatDoorCRefMulF
import Derived.Test.YtjohpdobnedilaaGreatDoorIa
import Derived.Test.YtjohpdobnedilaaGreatDoorIg
namespace Go.Proofs.YtjohpdobnedilaaGreatDoor
open Go Go.RowKit

theorem pairV_t (f t : Nat) : pairV f t true = .tuple #[.int .u64 (f : Int), .int .u64 (t : Int), .bool true] := rfl
theorem pairV_f (f t : Nat) : pairV f t false = .tuple #[.int .u64 0, .int .u64 0, .bool false] := rfl
theorem rdcmp_at {u v : Value} {d d' : Dy} {w : World} (hu : Dl w u d) (hv : Dl w v d') (hT : Table w) {c : Int} {ok : Bool} (h : DcmpIs d d' c ok) :
    Calls Tryz.prog 142 #[u, v] w fun e w' => e = .returned (.tuple #[.int .i64 c, .bool ok]) ∧ Ext w w' :=
  (refDCmp_any u v d d' w hu hv hT).mono fun e w' ⟨he, hw⟩ => by
    refine ⟨?_, hw⟩
    rcases h with ⟨h0, rfl, rfl⟩ | ⟨h1, h2, rfl, rfl⟩
    · rcases he with ⟨_, he⟩ | ⟨h3, h4, _⟩
      · exact he
      · rcases h0 with h0 | h0
        · exact absurd h0 h3
        · exact absurd h0 h4
    · rcases he with ⟨h0, _⟩ | ⟨_, _, he⟩
      · rcases h0 with h0 | h0
        · exact absurd h0 h1
        · exact absurd h0 h2
      · exact he
theorem dsub_noneL (d : Dy) : dsub none d = none := rfl
theorem dadd_noneL (d : Dy) : dadd none d = none := rfl
theorem dmul_noneL (d : Dy) : dmul none d = none := rfl
theorem dadd_noneR (d : Dy) : dadd d none = none := by cases d <;> rfl
theorem dmul_noneR (d : Dy) : dmul d none = none := by cases d <;> rfl
theorem dsub_noneR (d : Dy) : dsub d none = none := by cases d <;> rfl
theorem fdy_non {f : Nat} (h : finB f = false) : fdy f = none := by unfold fdy; rw [h]; rfl
theorem restB_no {f : Nat} {d : Dy} (h : dsub d (fdy f) = none) : restB f d = false := by unfold restB; rw [h]; rfl

set_option maxRecDepth 100000 in
set_option maxHeartbeats 4000000 in
theorem refRest_any (v : Value) (dr : Dy) (w : World) (hv : Dl w v dr) (hT : Table w) (t : Nat) (b : Bool) (ht : frdF dr 0 = t) (hb : (decide (dr ≠ none) && decide (fdy t ≠ none) && decide (sgn3 (sc (fdy t)) (sc dr) = 0)) = b) :
    Calls Tryz.prog 60 #[v] w fun e w' => e = .returned (.tuple #[.int .u64 (t : Int), .bool b]) ∧ Ext w w' := by
  have htl : t < 18446744073709551616 := by rw [← ht]; exact frdF_lt _ _
  obtain ⟨dt, hdt⟩ : ∃ dt, fdy t = dt := ⟨_, rfl⟩
  rw [hdt] at hb
  obtain ⟨c, ok, hci⟩ := dcmpIs_any dt dr
  have hcb : (ok && decide (c = 0)) = b := by
    rw [← hb]
    rcases hci with ⟨h1, h2, h3⟩ | ⟨h1, h2, h3, h4⟩
    · rw [h3]
      rcases h1 with h1 | h1 <;> simp [h1]
    · rw [h4, h3]; simp [h1, h2]
  have CT := Lib.hid (fun W (hE : Ext w W) => show Calls Tryz.prog 26 #[.int .u64 (t : Int)] W fun e w' => ∃ v, e = .returned v ∧ Dn w' v dt ∧ Ext W w' from hdt ▸ refOf_any t htl W (hT.below hE))
  have HTT := Lib.hid (fun W (hE : Ext w W) => hT.below hE)
  have CR := Lib.hid (fun W (v : Value) (hv : Dl W v dr) (hT : Table W) => show Calls Tryz.prog 86 #[v, .int .i64 0] W fun e w' => e = .returned (.int .u64 (t : Int)) ∧ Ext W w' from ht ▸ refRound_any v dr 0 W hv hT)
  have HCI := Lib.hid hci
  have HCB := Lib.hid hcb
  obtain ⟨ub, un, uo, uk, uc, uf, rfl⟩ := Dg.parts hv.dg
  clear ht hb hdt hci hcb hT
  go_enter Tryz.func60, Tryz.ntmps60
  go_upto_region 1 with fail
  obtain ⟨W, hW, hB, hbr, hz⟩ := dbox_new w ub un uo uk uc uf
  rw [← hW]
  clear hW
  have hr := hv.ext hB
  have hE : Ext w W := hB
  clear hB hv hz
  generalize w.heap.size = C at *
  have k0 := hbr.c0
  have k1 := hbr.c1
  have k2 := hbr.c2
  have k3 := hbr.c3
  go_wp2_with fail
  refine (CR.out _ _ hr (HTT.out _ hE)).mono ?_
  rintro e w4 ⟨rfl, hw4⟩
  have hr := hr.ext hw4
  have hbr := hbr.ext hw4
  have hE := Ext.trans hE hw4
  clear k0 k1 k2 k3 hw4
  have k0 := hbr.c0
  have k1 := hbr.c1
  have k2 := hbr.c2
  have k3 := hbr.c3
  have HE := Lib.hid hE
  have hex4 : Ext w4 w4.drew := (Below.refl _ _).drew
  have C1 := Lib.hid (fun wx (hx : Ext w4 wx) => CT.out wx (Ext.trans HE.out hx))
  have HTV := Lib.hid (fun wx (hx : Ext w4 wx) => HTT.out wx (Ext.trans HE.out hx))
  have HC : ∀ wx, Ext w4 wx → wx.cell? ⟨C, 0, none⟩ = some (.bool ub) ∧ wx.cell? ⟨C, 1, none⟩ = some (.bool un) ∧ wx.cell? ⟨C, 2, none⟩ = some (.slice uo uk uc) ∧ wx.cell? ⟨C, 3, none⟩ = some (.int .i64 uf) := fun wx h => ⟨(hbr.ext h).c0, (hbr.ext h).c1, (hbr.ext h).c2, (hbr.ext h).c3⟩
  have HC := Lib.hid HC
  clear hE
  go_upto_region 2 with fail
  go_region_held3 (fun wx => wx.cell? ⟨C, 0, none⟩ = some (.bool ub) ∧ wx.cell? ⟨C, 1, none⟩ = some (.bool un) ∧ wx.cell? ⟨C, 2, none⟩ = some (.slice uo uk uc) ∧ wx.cell? ⟨C, 3, none⟩ = some (.int .i64 uf))
    (first | exact HC.out _ (by assumption))
    (first
    | (go_at_call 26; (with_reducible refine (C1.out _ (by assumption)).mono ?_); rintro e w5 ⟨v1, rfl, hv1, hw5⟩; have ex5 : Ext w4 w5 := Ext.trans hex4 hw5)
    | (go_at_call 142; refine (rdcmp_at hv1.dl (by exact hr.ext ex5) (by exact HTV.out _ ex5) HCI.out).mono ?_; rintro e w6 ⟨rfl, hw6⟩; have ex6 : Ext w4 w6 := Ext.trans ex5 hw6))
  have HF := Lib.hid (Ext.trans HE.out ex6)
  cases ok with
  | false =>
    obtain rfl : b = false := by rw [← HCB.out]; rfl
    go_wp2
    exact bodyPost_ret (v := .tuple #[.int .u64 (t : Int), .bool false]) (by simp [results, Tryz.results60, go_sem]) rfl ⟨rfl, HF.out⟩
  | true =>
    by_cases hc0 : c = 0
    · obtain rfl : b = true := by rw [← HCB.out]; simp [hc0]
      subst hc0
      go_wp2
      exact bodyPost_ret (v := .tuple #[.int .u64 (t : Int), .bool true]) (by simp [results, Tryz.results60, go_sem]) rfl ⟨rfl, HF.out⟩
    · obtain rfl : b = false := by rw [← HCB.out]; simp [hc0]
      have hc1 : (c == 0) = false := by simpa using hc0
      clear hc0
      go_wp2
      exact bodyPost_ret (v := .tuple #[.int .u64 (t : Int), .bool false]) (by simp [results, Tryz.results60, go_sem]) rfl ⟨rfl, HF.out⟩

set_option maxRecDepth 100000 in
set_option maxHeartbeats 4000000 in
theorem refTwoSum_any (a b : Nat) (ha : a < 18446744073709551616) (hb : b < 18446744073709551616) (w : World) (hT : Table w) (f t : Nat) (ok : Bool) (hf : faddF a b 0 = f) (ht : rest f (dadd (fdy a) (fdy b)) = t) (hok : restB f (dadd (fdy a) (fdy b)) = ok) :
    Calls Tryz.prog 8 #[.int .u64 (a : Int), .int .u64 (b : Int)] w fun e w' => e = .returned (pairV f t ok) ∧ Ext w w' := by
  have hfl : f < 18446744073709551616 := by rw [← hf]; exact fadd_lt _ hb
  have CF := Lib.hid (show Calls Tryz.prog 59 #[.int .u64 (a : Int), .int .u64 (b : Int), .int .i64 0] w fun e w' => e = .returned (.int .u64 (f : Int)) ∧ Ext w w' from hf ▸ refFAdd_any a b 0 ha hb w hT)
  obtain ⟨xa, fa⟩ : ∃ x, finB a = x := ⟨_, rfl⟩
  obtain ⟨xb, fb⟩ : ∃ x, finB b = x := ⟨_, rfl⟩
  obtain ⟨xs, fs⟩ : ∃ x, finB f = x := ⟨_, rfl⟩
  have FA := Lib.hid (fun W => refFin_any a ha xa fa W)
  have FB := Lib.hid (fun W => refFin_any b hb xb fb W)
  have FS := Lib.hid (fun W => refFin_any f hfl xs fs W)
  cases xa
  · rw [fdy_non fa] at hok
    rw [fdy_non fa] at ht
    clear fb fs
    obtain rfl : ok = false := by rw [← hok]; exact restB_no (by rw [dadd_noneL]; rfl)
    clear hok ht hf
    go_enter Tryz.func8, Tryz.ntmps8
    go_wp2_with fail
    refine CF.out.mono ?_
    rintro e w1 ⟨rfl, h1⟩
    go_wp2_with fail
    refine (FA.out _).mono ?_
    rintro e w1' ⟨rfl, rfl⟩
    have HE := Lib.hid h1
    go_wp2
    exact bodyPost_ret (v := .tuple #[.int .u64 0, .int .u64 0, .bool false]) (by simp [results, Tryz.results8, go_sem]) rfl ⟨rfl, HE.out⟩
  cases xb
  · rw [fdy_non fb] at hok
    rw [fdy_non fb] at ht
    clear fa fs
    obtain rfl : ok = false := by rw [← hok]; exact restB_no (by rw [dadd_noneR]; rfl)
    clear hok ht hf
    go_enter Tryz.func8, Tryz.ntmps8
    go_wp2_with fail
    refine CF.out.mono ?_
    rintro e w1 ⟨rfl, h1⟩
    go_wp2_with fail
    refine (FA.out _).mono ?_
    rintro e w1' ⟨rfl, rfl⟩
    go_wp2_with fail
    refine (FB.out _).mono ?_
    rintro e w1' ⟨rfl, rfl⟩
    have HE := Lib.hid h1
    go_wp2
    exact bodyPost_ret (v := .tuple #[.int .u64 0, .int .u64 0, .bool false]) (by simp [results, Tryz.results8, go_sem]) rfl ⟨rfl, HE.out⟩
  cases xs
  · clear fa fb
    obtain rfl : ok = false := by rw [← hok]; exact restB_no (by rw [fdy_non fs]; exact dsub_noneR _)
    clear hok ht hf
    go_enter Tryz.func8, Tryz.ntmps8
    go_wp2_with fail
    refine CF.out.mono ?_
    rintro e w1 ⟨rfl, h1⟩
    go_wp2_with fail
    refine (FA.out _).mono ?_
    rintro e w1' ⟨rfl, rfl⟩
    go_wp2_with fail
    refine (FB.out _).mono ?_
    rintro e w1' ⟨rfl, rfl⟩
    go_wp2_with fail
    refine (FS.out _).mono ?_
    rintro e w1' ⟨rfl, rfl⟩
    have HE := Lib.hid h1
    go_wp2
    exact bodyPost_ret (v := .tuple #[.int .u64 0, .int .u64 0, .bool false]) (by simp [results, Tryz.results8, go_sem]) rfl ⟨rfl, HE.out⟩
  clear fa fb fs
  obtain ⟨da, hda⟩ : ∃ d, fdy a = d := ⟨_, rfl⟩
  obtain ⟨db, hdb⟩ : ∃ d, fdy b = d := ⟨_, rfl⟩
  obtain ⟨df, hdf⟩ : ∃ d, fdy f = d := ⟨_, rfl⟩
  rw [hda, hdb] at ht hok
  obtain ⟨dr, hdr⟩ : ∃ d, dsub (dadd da db) df = d := ⟨_, rfl⟩
  have ht' : frdF dr 0 = t := by rw [← ht, ← hdr, ← hdf]; rfl
  have hok' : (decide (dr ≠ none) && decide (fdy t ≠ none) && decide (sgn3 (sc (fdy t)) (sc dr) = 0)) = ok := by
    rw [← hok]; unfold restB; rw [ht, hdf, hdr]
  have CA := Lib.hid (fun W (hE : Ext w W) => hda ▸ refOf_any a ha W (hT.below hE))
  have CB := Lib.hid (fun W (hE : Ext w W) => hdb ▸ refOf_any b hb W (hT.below hE))
  have CS := Lib.hid (fun W (hE : Ext w W) => hdf ▸ refOf_any f hfl W (hT.below hE))
  have HTT := Lib.hid (fun W (hE : Ext w W) => hT.below hE)
  have CR := Lib.hid (fun W v (hE : Ext w W) (hv : Dl W v dr) => refRest_any v dr W hv (hT.below hE) t ok ht' hok')
  have HDR := Lib.hid hdr
  clear hf hda hdb hdf ht hok hT ht' hok' hdr
  go_enter Tryz.func8, Tryz.ntmps8
  go_wp2_with fail
  refine CF.out.mono ?_
  rintro e w1 ⟨rfl, h1⟩
  go_wp2_with fail
  refine (FA.out _).mono ?_
  rintro e w1' ⟨rfl, rfl⟩
  go_wp2_with fail
  refine (FB.out _).mono ?_
  rintro e w1' ⟨rfl, rfl⟩
  go_wp2_with fail
  refine (FS.out _).mono ?_
  rintro e w1' ⟨rfl, rfl⟩
  go_wp2_with fail
  refine (CA.out _ h1).mono ?_
  rintro e w2 ⟨v1, rfl, hv1, hw2⟩
  have h2 := Ext.trans h1 hw2
  go_wp2_with fail
  refine (CB.out _ h2).mono ?_
  rintro e w3 ⟨v2, rfl, hv2, hw3⟩
  have h3 := Ext.trans h2 hw3
  have hv1 := hv1.ext hw3
  go_wp2_with fail
  refine (ref_dadd_any _ _ _ _ _ hv1.dl hv2.dl (HTT.out _ h3)).mono ?_
  rintro e w4 ⟨v3, rfl, hv3, hw4⟩
  have h4 := Ext.trans h3 hw4
  go_wp2_with fail
  refine (CS.out _ h4).mono ?_
  rintro e w5 ⟨v4, rfl, hv4, hw5⟩
  have h5 := Ext.trans h4 hw5
  have hv3 := hv3.ext hw5
  go_wp2_with fail
  refine (ref_dsub_any _ _ _ _ _ hv3.dl hv4.dl (HTT.out _ h5)).mono ?_
  rintro e w6 ⟨v5, rfl, hv5, hw6⟩
  have h6 := Ext.trans h5 hw6
  rw [HDR.out] at hv5
  go_wp2_with fail
  refine (CR.out _ _ h6 hv5.dl).mono ?_
  rintro e w7 ⟨rfl, hw7⟩
  have HE := Lib.hid (Ext.trans h6 hw7)
  clear h1 h2 h3 h4 h5 h6 hw2 hw3 hw4 hw5 hw6 hw7 hv1 hv2 hv3 hv4 hv5
  cases ok with
  | false =>
    go_wp2
    exact bodyPost_ret (v := .tuple #[.int .u64 0, .int .u64 0, .bool false]) (by simp [results, Tryz.results8, go_sem]) rfl ⟨rfl, HE.out⟩
  | true =>
    go_wp2
    exact bodyPost_ret (v := .tuple #[.int .u64 (f : Int), .int .u64 (t : Int), .bool true]) (by simp [results, Tryz.results8, go_sem]) rfl ⟨rfl, HE.out⟩

set_option maxRecDepth 100000 in
set_option maxHeartbeats 4000000 in
theorem refTwoMul_any (a b : Nat) (ha : a < 18446744073709551616) (hb : b < 18446744073709551616) (w : World) (hT : Table w) (f t : Nat) (ok : Bool) (hf : fmulF a b 0 = f) (ht : rest f (dmul (fdy a) (fdy b)) = t) (hok : restB f (dmul (fdy a) (fdy b)) = ok) :
    Calls Tryz.prog 10 #[.int .u64 (a : Int), .int .u64 (b : Int)] w fun e w' => e = .returned (pairV f t ok) ∧ Ext w w' := by
  have hfl : f < 18446744073709551616 := by rw [← hf]; exact fmul_lt _
  have CF := Lib.hid (show Calls Tryz.prog 65 #[.int .u64 (a : Int), .int .u64 (b : Int), .int .i64 0] w fun e w' => e = .returned (.int .u64 (f : Int)) ∧ Ext w w' from hf ▸ refFMul_any a b 0 ha hb w hT)
  obtain ⟨xa, fa⟩ : ∃ x, finB a = x := ⟨_, rfl⟩
  obtain ⟨xb, fb⟩ : ∃ x, finB b = x := ⟨_, rfl⟩
  obtain ⟨xs, fs⟩ : ∃ x, finB f = x := ⟨_, rfl⟩
  have FA := Lib.hid (fun W => refFin_any a ha xa fa W)
  have FB := Lib.hid (fun W => refFin_any b hb xb fb W)
  have FS := Lib.hid (fun W => refFin_any f hfl xs fs W)
  cases xa
  · rw [fdy_non fa] at hok
    rw [fdy_non fa] at ht
    clear fb fs
    obtain rfl : ok = false := by rw [← hok]; exact restB_no (by rw [dmul_noneL]; rfl)
    clear hok ht hf
    go_enter Tryz.func10, Tryz.ntmps10
    go_wp2_with fail
    refine CF.out.mono ?_
    rintro e w1 ⟨rfl, h1⟩
    go_wp2_with fail
    refine (FA.out _).mono ?_
    rintro e w1' ⟨rfl, rfl⟩
    have HE := Lib.hid h1
    go_wp2
    exact bodyPost_ret (v := .tuple #[.int .u64 0, .int .u64 0, .bool false]) (by simp [results, Tryz.results10, go_sem]) rfl ⟨rfl, HE.out⟩
  cases xb
  · rw [fdy_non fb] at hok
    rw [fdy_non fb] at ht
    clear fa fs
    obtain rfl : ok = false := by rw [← hok]; exact restB_no (by rw [dmul_noneR]; rfl)
    clear hok ht hf
    go_enter Tryz.func10, Tryz.ntmps10
    go_wp2_with fail
    refine CF.out.mono ?_
    rintro e w1 ⟨rfl, h1⟩
    go_wp2_with fail
    refine (FA.out _).mono ?_
    rintro e w1' ⟨rfl, rfl⟩
    go_wp2_with fail
    refine (FB.out _).mono ?_
    rintro e w1' ⟨rfl, rfl⟩
    have HE := Lib.hid h1
    go_wp2
    exact bodyPost_ret (v := .tuple #[.int .u64 0, .int .u64 0, .bool false]) (by simp [results, Tryz.results10, go_sem]) rfl ⟨rfl, HE.out⟩
  cases xs
  · clear fa fb
    obtain rfl : ok = false := by rw [← hok]; exact restB_no (by rw [fdy_non fs]; exact dsub_noneR _)
    clear hok ht hf
    go_enter Tryz.func10, Tryz.ntmps10
    go_wp2_with fail
    refine CF.out.mono ?_
    rintro e w1 ⟨rfl, h1⟩
    go_wp2_with fail
    refine (FA.out _).mono ?_
    rintro e w1' ⟨rfl, rfl⟩
    go_wp2_with fail
    refine (FB.out _).mono ?_
    rintro e w1' ⟨rfl, rfl⟩
    go_wp2_with fail
    refine (FS.out _).mono ?_
    rintro e w1' ⟨rfl, rfl⟩
    have HE := Lib.hid h1
    go_wp2
    exact bodyPost_ret (v := .tuple #[.int .u64 0, .int .u64 0, .bool false]) (by simp [results, Tryz.results10, go_sem]) rfl ⟨rfl, HE.out⟩
  clear fa fb fs
  obtain ⟨da, hda⟩ : ∃ d, fdy a = d := ⟨_, rfl⟩
  obtain ⟨db, hdb⟩ : ∃ d, fdy b = d := ⟨_, rfl⟩
  obtain ⟨df, hdf⟩ : ∃ d, fdy f = d := ⟨_, rfl⟩
  rw [hda, hdb] at ht hok
  obtain ⟨dr, hdr⟩ : ∃ d, dsub (dmul da db) df = d := ⟨_, rfl⟩
  have ht' : frdF dr 0 = t := by rw [← ht, ← hdr, ← hdf]; rfl
  have hok' : (decide (dr ≠ none) && decide (fdy t ≠ none) && decide (sgn3 (sc (fdy t)) (sc dr) = 0)) = ok := by
    rw [← hok]; unfold restB; rw [ht, hdf, hdr]
  have CA := Lib.hid (fun W (hE : Ext w W) => hda ▸ refOf_any a ha W (hT.below hE))
  have CB := Lib.hid (fun W (hE : Ext w W) => hdb ▸ refOf_any b hb W (hT.below hE))
  have CS := Lib.hid (fun W (hE : Ext w W) => hdf ▸ refOf_any f hfl W (hT.below hE))
  have HTT := Lib.hid (fun W (hE : Ext w W) => hT.below hE)
  have CR := Lib.hid (fun W v (hE : Ext w W) (hv : Dl W v dr) => refRest_any v dr W hv (hT.below hE) t ok ht' hok')
  have HDR := Lib.hid hdr
  clear hf hda hdb hdf ht hok hT ht' hok' hdr
  go_enter Tryz.func10, Tryz.ntmps10
  go_wp2_with fail
  refine CF.out.mono ?_
  rintro e w1 ⟨rfl, h1⟩
  go_wp2_with fail
  refine (FA.out _).mono ?_
  rintro e w1' ⟨rfl, rfl⟩
  go_wp2_with fail
  refine (FB.out _).mono ?_
  rintro e w1' ⟨rfl, rfl⟩
  go_wp2_with fail
  refine (FS.out _).mono ?_
  rintro e w1' ⟨rfl, rfl⟩
  go_wp2_with fail
  refine (CA.out _ h1).mono ?_
  rintro e w2 ⟨v1, rfl, hv1, hw2⟩
  have h2 := Ext.trans h1 hw2
  go_wp2_with fail
  refine (CB.out _ h2).mono ?_
  rintro e w3 ⟨v2, rfl, hv2, hw3⟩
  have h3 := Ext.trans h2 hw3
  have hv1 := hv1.ext hw3
  go_wp2_with fail
  refine (ref_dmul_any _ _ _ _ _ hv1.dl hv2.dl (HTT.out _ h3)).mono ?_
  rintro e w4 ⟨v3, rfl, hv3, hw4⟩
  have h4 := Ext.trans h3 hw4
  go_wp2_with fail
  refine (CS.out _ h4).mono ?_
  rintro e w5 ⟨v4, rfl, hv4, hw5⟩
  have h5 := Ext.trans h4 hw5
  have hv3 := hv3.ext hw5
  go_wp2_with fail
  refine (ref_dsub_any _ _ _ _ _ hv3.dl hv4.dl (HTT.out _ h5)).mono ?_
  rintro e w6 ⟨v5, rfl, hv5, hw6⟩
  have h6 := Ext.trans h5 hw6
  rw [HDR.out] at hv5
  go_wp2_with fail
  refine (CR.out _ _ h6 hv5.dl).mono ?_
  rintro e w7 ⟨rfl, hw7⟩
  have HE := Lib.hid (Ext.trans h6 hw7)
  clear h1 h2 h3 h4 h5 h6 hw2 hw3 hw4 hw5 hw6 hw7 hv1 hv2 hv3 hv4 hv5
  cases ok with
  | false =>
    go_wp2
    exact bodyPost_ret (v := .tuple #[.int .u64 0, .int .u64 0, .bool false]) (by simp [results, Tryz.results10, go_sem]) rfl ⟨rfl, HE.out⟩
  | true =>
    go_wp2
    exact bodyPost_ret (v := .tuple #[.int .u64 (f : Int), .int .u64 (t : Int), .bool true]) (by simp [results, Tryz.results10, go_sem]) rfl ⟨rfl, HE.out⟩
end Go.Proofs.YtjohpdobnedilaaGreatDoor
