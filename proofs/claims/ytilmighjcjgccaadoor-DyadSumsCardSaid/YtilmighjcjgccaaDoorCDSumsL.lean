/- DyadSums returns true, from what its callees do: lists that are not empty. -/
import Derived.Test.YtilmighjcjgccaaDoorCRawDs
import Derived.Test.YtilmighjcjgccaaDoorCDOwn
import Derived.Test.YtilmighjcjgccaaDoorCDSumsM
import Derived.Test.YtilmighjcjgccaaDoorCRefSum
import Derived.Test.YtilmighjcjgccaaDoorCDRing
namespace Go.Proofs.YtilmighjcjgccaaDoor
open Go Go.RowKit

theorem ext_alloc0 {V w : World} (h : Ext V w) (o : Obj) : Ext V (w.alloc o) := Ext.trans h ((Below.refl _ _).alloc (Nat.le_refl _) _)
theorem ext_ad0 (V : World) (o : Obj) : Ext V (V.alloc o).drew := ((Below.refl _ _).alloc (Nat.le_refl _) _).drew


theorem dbox_after0 {w wn : World} (h : Ext (w.alloc (.cells #[.bool false, .bool false, .slice none 0 0, .int .i64 0] 29)) wn) : DBox wn w.heap.size false false none 0 0 0 := (DBox.new w false false none 0 0 0).ext h
theorem dbox_after20 {w wn : World} (h : Ext (w.alloc (.cells #[.bool false, .bool false, .slice none 0 0, .int .i64 0] 29)).drew wn) : DBox wn w.heap.size false false none 0 0 0 := dbox_after0 (Ext.trans (show Ext (w.alloc (.cells #[.bool false, .bool false, .slice none 0 0, .int .i64 0] 29)) (w.alloc (.cells #[.bool false, .bool false, .slice none 0 0, .int .i64 0] 29)).drew from (Below.refl _ _).drew) h)
theorem box_stored0 {W w : World} {g : Nat} {bb nb mbb mb : Bool} {ao bo : Option Addr} {n ca m cb : Nat} {e f : Int} {d : Dy} (hx : DBox w g bb nb ao n ca e) (h : Dn w (.agg #[.bool mbb, .bool mb, .slice bo m cb, .int .i64 f]) d) (hw : Ext W w) (hg : W.heap.size ≤ g) :
    Dn ((((w.setCell ⟨g, 0, none⟩ (.bool mbb)).setCell ⟨g, 1, none⟩ (.bool mb)).setCell ⟨g, 2, none⟩ (.slice bo m cb)).setCell ⟨g, 3, none⟩ (.int .i64 f)) (.agg #[.bool mbb, .bool mb, .slice bo m cb, .int .i64 f]) d ∧
    DBox ((((w.setCell ⟨g, 0, none⟩ (.bool mbb)).setCell ⟨g, 1, none⟩ (.bool mb)).setCell ⟨g, 2, none⟩ (.slice bo m cb)).setCell ⟨g, 3, none⟩ (.int .i64 f)) g mbb mb bo m cb f ∧
    Ext W ((((w.setCell ⟨g, 0, none⟩ (.bool mbb)).setCell ⟨g, 1, none⟩ (.bool mb)).setCell ⟨g, 2, none⟩ (.slice bo m cb)).setCell ⟨g, 3, none⟩ (.int .i64 f)) :=
  ⟨h.only_dbox hx (only_set4 _ _ _ _ _ _), hx.stored _ _ _ _ _ _, Below.trans hw ((only_set4 _ _ _ _ _ _).below hg)⟩

theorem RawD1.rawd {W : World} {b off j : Nat} {q : DP} (h : RawD1 W b off j q) : RawD W q.bb q.nb q.ao q.n q.ca q.e := ⟨h.lo, h.hi, h.sl⟩
theorem RawD1.ext {W W' : World} {b off j : Nat} {q : DP} (h : RawD1 W b off j q) (he : Ext W W') : RawD1 W' b off j q :=
  ⟨by rw [he.cell (p := ⟨b, _, none⟩) (lt_of_cell h.c0)]; exact h.c0, by rw [he.cell (p := ⟨b, _, none⟩) (lt_of_cell h.c1)]; exact h.c1, by rw [he.cell (p := ⟨b, _, none⟩) (lt_of_cell h.c2)]; exact h.c2, by rw [he.cell (p := ⟨b, _, none⟩) (lt_of_cell h.c3)]; exact h.c3, h.lo, h.hi, fun hn => by obtain ⟨zs, hz⟩ := h.sl hn; exact ⟨zs, hz.below he⟩⟩

theorem exists_listD {P : Nat → Dy → Prop} (n : Nat) (h : ∀ j, j < n → ∃ q, P j q) : ∃ l : List Dy, l.length = n ∧ ∀ j, j < n → P j (l.getD j none) := by
  induction n with
  | zero => exact ⟨[], rfl, fun j hj => absurd hj (Nat.not_lt_zero j)⟩
  | succ n ih =>
    obtain ⟨l, hl, hp⟩ := ih fun j hj => h j (by omega)
    obtain ⟨q, hq⟩ := h n (by omega)
    refine ⟨l ++ [q], by simp [hl], fun j hj => ?_⟩
    by_cases hj' : j < n
    · have : (l ++ [q]).getD j none = l.getD j none := by simp [List.getD, List.getElem?_append, show j < l.length by omega]
      rw [this]; exact hp j hj'
    · obtain rfl : j = n := by omega
      have : (l ++ [q]).getD j none = q := by simp [List.getD, hl]
      rw [this]; exact hq

/-- a list of dyads that is read, none of them too long -/
structure DLs (w : World) (ao : Option Addr) (n cap : Nat) (l : List DP) (D : List Dy) : Prop where
  sl : DSl w ao n cap l D
  dl : ∀ j, j < n → Dl w (l.getD j DP.zero).v (D.getD j none)
theorem DLs.below {w w' : World} {ao : Option Addr} {n cap : Nat} {l : List DP} {D : List Dy} (h : DLs w ao n cap l D) (he : Ext w w') : DLs w' ao n cap l D := ⟨h.sl.below he, fun j hj => (h.dl j hj).ext he⟩
theorem DLs.nil (w : World) (ao : Option Addr) (cap : Nat) : DLs w ao 0 cap [] [] := ⟨⟨rfl, rfl, Nat.zero_le _, fun h => absurd h (by simp), fun j hj => absurd hj (Nat.not_lt_zero j)⟩, fun j hj => absurd hj (Nat.not_lt_zero j)⟩
theorem DLs.take {w : World} {ao : Option Addr} {n cap : Nat} {l : List DP} {D : List Dy} (h : DLs w ao n cap l D) (k : Nat) (hk : k ≤ n) : DLs w ao k cap (l.take k) (D.take k) := by
  have el : ∀ j, j < k → (l.take k).getD j DP.zero = l.getD j DP.zero := fun j hj => by simp [List.getD, hj]
  have eD : ∀ j, j < k → (D.take k).getD j none = D.getD j none := fun j hj => by simp [List.getD, hj]
  refine ⟨⟨by rw [List.length_take, h.sl.len]; omega, by rw [List.length_take, h.sl.lenD]; omega, Nat.le_trans hk h.sl.cap, fun h0 => ?_, fun j hj => by rw [el j hj, eD j hj]; exact h.sl.reads j (by omega)⟩, fun j hj => by rw [el j hj, eD j hj]; exact h.dl j (by omega)⟩
  obtain ⟨b, off, e, hc⟩ := h.sl.cells (by omega)
  exact ⟨b, off, e, fun j hj => by rw [el j hj]; exact hc j (by omega)⟩
theorem DLs.drop {w : World} {b off n cap : Nat} {l : List DP} {D : List Dy} (h : DLs w (some ⟨b, off, none⟩) n cap l D) (k : Nat) (hk : k ≤ n) (ao : Option Addr) (hao : 0 < n - k → ao = some ⟨b, off + k * 4, none⟩) : DLs w ao (n - k) (cap - k) (l.drop k) (D.drop k) := by
  have el : ∀ j, (l.drop k).getD j DP.zero = l.getD (k + j) DP.zero := fun j => by simp [List.getD, List.getElem?_drop]
  have eD : ∀ j, (D.drop k).getD j none = D.getD (k + j) none := fun j => by simp [List.getD, List.getElem?_drop]
  have hcap := h.sl.cap
  refine ⟨⟨by rw [List.length_drop, h.sl.len], by rw [List.length_drop, h.sl.lenD], by omega, fun h0 => ?_, fun j hj => by rw [el j, eD j]; exact h.sl.reads (k + j) (by omega)⟩, fun j hj => by rw [el j, eD j]; exact h.dl (k + j) (by omega)⟩
  obtain ⟨b', off', e, hc⟩ := h.sl.cells (by omega)
  cases e
  refine ⟨b, off + k * 4, hao h0, fun j hj => ?_⟩
  rw [el j, show off + k * 4 + 4 * j = off + 4 * (k + j) by omega]
  exact hc (k + j) (by omega)

theorem rev_take {l : List DP} {i j : Nat} (h : i + 1 + j = l.length) : l.reverse.take (j + 1) = l.reverse.take j ++ [l.getD i DP.zero] := by
  rw [List.take_succ_eq_append_getElem (by simp; omega)]
  congr 1
  simp only [List.getElem_reverse, List.getD, List.getElem?_eq_getElem (show i < l.length by omega), Option.getD_some, List.cons.injEq, and_true]
  congr 1
  omega
theorem rev_getD {α : Type} {l : List α} {j : Nat} (d : α) (h : j < l.length) : l.reverse.getD j d = l.getD (l.length - 1 - j) d := by
  simp [List.getD, h, show l.length - 1 - j < l.length by omega]

set_option maxRecDepth 100000 in
set_option maxHeartbeats 64000000 in
theorem dsums_walk (b off : Nat) (n cap : Nat) (at3 : Int) (l : List DP) (w : World) (hl : l.length = n) (hr : ∀ j, j < n → RawD1 w b off j (l.getD j DP.zero)) (hT : Table w) (hcap : n ≤ cap) (hn : n ≤ 12) (hn0 : 0 < n) :
    Calls Tryd.prog 3 #[.slice (some ⟨b, off, none⟩) n cap, .int .i64 at3] w fun e w' => e = .returned (.bool true) ∧ Ext w w' := by
  have HTT := Lib.hid (fun W (hE : Ext w W) => hT.below hE)
  have AW := Lib.hid (fun W (hE : Ext w W) => dawake_any W (hT.below hE))
  have HR := Lib.hid hr
  have HLL := Lib.hid hl
  have CP := Lib.hid (show ∀ W : World, Calls Tryd.prog 8 #[.int .i64 at3, .int .i64 ((n : Int) + 1)] W fun e w' => ∃ j : Nat, j < n + 1 ∧ e = .returned (.int .i64 j) ∧ W = w' from fun W => place_any at3 (n + 1) W (by omega) (by omega))
  clear hr hl hT
  go_enter Tryd.func3, Tryd.ntmps3
  go_wp2
  go_loopw [5] (fun ix wr => ∃ j : Nat, j ≤ n ∧ ix = .int .i64 j ∧ Ext w wr ∧ ∀ i, i < j → slimSays (l.getD i DP.zero).n (l.getD i DP.zero).e 20 2000 = true)
    (fun ix _ => n - (intOf ix).toNat)
  case atStart => exact ⟨0, Nat.zero_le _, rfl, Ext.refl _, fun i hi => absurd hi (Nat.not_lt_zero i)⟩
  case round =>
    obtain ⟨j, hj, rfl, hE, hall⟩ := hrel
    have HALL := Lib.hid hall
    clear hall
    by_cases hlt : j < n
    · have hq := (HR.out j hlt).ext hE
      have HQS := Lib.hid (fun i (hi : i < j) => HALL.out i hi)
      obtain ⟨q, hq0⟩ : ∃ q, l.getD j DP.zero = q := ⟨_, rfl⟩
      rw [hq0] at hq
      have HQ0 := Lib.hid hq0
      clear hq0
      have c0 := hq.c0
      have c1 := hq.c1
      have c2 := hq.c2
      have c3 := hq.c3
      have e4 : off + j * 4 = off + 4 * j := by omega
      clear hq
      cases sq : slimSays q.n q.e 20 2000 with
      | false =>
        go_wp2_with fail
        refine (dslim_at q.bb q.nb q.ao q.n q.ca q.e _ false sq).mono ?_
        rintro e w1 ⟨rfl, hw1⟩
        have hE := Ext.trans hE hw1
        go_wp2_with fail
        refine (AW.out _ hE).mono ?_
        rintro e w2 ⟨rfl, hw2⟩
        have hE := Lib.hid (Ext.trans hE hw2)
        go_wp2
        go_ret
        exact ⟨rfl, hE.out⟩
      | true =>
        have SQ := Lib.hid sq
        go_wp2_with fail
        refine (dslim_at q.bb q.nb q.ao q.n q.ca q.e _ true sq).mono ?_
        rintro e w1 ⟨rfl, hw1⟩
        have R := Lib.hid (Ext.trans hE hw1)
        clear sq
        go_wp2
        go_roundw
        case rel =>
          refine ⟨j + 1, by omega, by go_num, R.out, fun i hi => ?_⟩
          rcases Nat.lt_or_ge i j with h | h
          · exact HQS.out i h
          · obtain rfl : i = j := by omega
            rw [HQ0.out]; exact SQ.out
        case measure => simp [intOf] <;> omega
    · obtain rfl : j = n := by omega
      obtain ⟨D, hDl, hD⟩ := exists_listD (P := fun i d => Dl w (l.getD i DP.zero).v d ∧ (d ≠ none → Slim d)) j fun i hi => by
        obtain ⟨d, d1, d2⟩ := (HR.out i hi).rawd.slim (HALL.out i hi)
        exact ⟨d, d1, d2⟩
      have hls : DLs w (some ⟨b, off, none⟩) j cap l D := ⟨⟨HLL.out, hDl, hcap, fun _ => ⟨b, off, rfl, fun i hi => ⟨(HR.out i hi).c0, (HR.out i hi).c1, (HR.out i hi).c2, (HR.out i hi).c3⟩⟩, fun i hi => (hD i hi).1.dg⟩, fun i hi => (hD i hi).1⟩
      have hslim : ∀ d ∈ D, d ≠ none → Slim d := by
        intro d hd
        obtain ⟨i, hi, rfl⟩ := List.getElem_of_mem hd
        have := (hD i (by omega)).2
        simpa [List.getD, hi] using this
      have HCK := Lib.hid (fun k => dtotal_cut (D := D) (by omega) hslim k)
      have HREV := Lib.hid (dtotal_reverse D)
      have HDL := Lib.hid hDl
      have HLS := Lib.hid hls
      have HE1 := Lib.hid hE
      clear hD hslim hls hDl HALL
      obtain ⟨C, hCe⟩ : ∃ C, wr.heap.size = C := ⟨_, rfl⟩
      have HEX := Lib.hid (show ∀ wx, Below C wr wx → Ext wr wx from fun wx h => by rw [← hCe] at h; exact h)
      have hC0 : C ≤ wr.heap.size := by omega
      obtain ⟨W0, hW0⟩ : ∃ W0, W0 = wr := ⟨_, rfl⟩
      subst hW0
      clear hCe hE
      go_wp2
      go_loopw [6, 7] (fun bv ix wr => ∃ i k : Nat, i + k = j ∧ ix = .int .i64 ((i : Int) - 1) ∧ OD wr C bv (l.reverse.take k) ∧ Below C W0 wr ∧ C ≤ wr.heap.size)
        (fun _ ix _ => (intOf ix + 1).toNat)
      case atStart => exact ⟨j, 0, by omega, by go_num, OD.nil _ C, Below.refl C W0, hC0⟩
      case round =>
        obtain ⟨i, k, hik, rfl, hown, hB, hCs⟩ := hrel
        cases i with
        | succ i =>
          have hq := ((HR.out i (by omega)).ext HE1.out).ext (HEX.out _ hB)
          have hrt := rev_take (l := l) (i := i) (j := k) (by rw [HLL.out]; omega)
          obtain ⟨q, hq0⟩ : ∃ q, l.getD i DP.zero = q := ⟨_, rfl⟩
          rw [hq0] at hq hrt
          have HRT := Lib.hid hrt
          clear hq0 hrt
          have c0 := hq.c0
          have c1 := hq.c1
          have c2 := hq.c2
          have c3 := hq.c3
          have e4 : off + i * 4 = off + 4 * i := by omega
          have hi1 : ((i + 1 : Nat) : Int) - 1 = (i : Int) := by omega
          have hij : (i : Int) < (j : Int) := by omega
          rw [hi1]
          have hlk : (l.reverse.take k).length ≤ 1000000 := by rw [List.length_take]; omega
          clear hq hi1
          go_wp2_with (at_builtin; refine wpList_append_dyad_own _ rfl (.tmp 35) (.tmp 40) rfl C _ (l.reverse.take k) q rfl rfl hown hCs hlk ?_)
          intro bv' w2 hown2 hB2
          rw [← HRT.out] at hown2
          have hsz := hB2.size
          have R := Lib.hid (And.intro hown2 (hB.trans hB2))
          clear hown hown2
          go_wp2
          go_roundw
          case rel => exact ⟨i, k + 1, by omega, by go_num, R.out.1, R.out.2, by omega⟩
          case measure => simp [intOf] <;> omega
        | zero =>
          obtain rfl : k = j := by omega
          rw [List.take_of_length_le (by simp [HLL.out])] at hown
          obtain ⟨ro, rcap, hbv, hrc, hcells⟩ := hown.form
          have hrl : l.reverse.length = k := by rw [List.length_reverse]; exact HLL.out
          rw [hrl] at hbv hrc hcells
          subst hbv
          have hE := Ext.trans HE1.out (HEX.out _ hB)
          have hls2 := HLS.out.below hE
          have hback : DSl wr ro k rcap l.reverse D.reverse := by
            refine ⟨hrl, by rw [List.length_reverse]; exact HDL.out, hrc, fun h0 => ?_, fun i hi => ?_⟩
            · obtain ⟨g, e1, _, hc⟩ := hcells h0
              exact ⟨g, 0, e1, fun i hi => by rw [Nat.zero_add]; exact hc i hi⟩
            · rw [rev_getD _ (by rw [HLL.out]; exact hi), rev_getD _ (by rw [HDL.out]; exact hi), HLL.out, HDL.out]
              exact hls2.sl.reads _ (by omega)
          have hcp := hls2.sl.cap
          obtain ⟨dt, hdt⟩ : ∃ dt, dtotal D = dt := ⟨_, rfl⟩
          have CS := Lib.hid (show ∀ W, Ext wr W → Calls Tryd.prog 9 #[.slice (some ⟨b, off, none⟩) k cap] W fun e w' => ∃ v, e = .returned v ∧ Dn w' v dt ∧ Ext W w' from fun W hW => by
            rw [← hdt]; exact dsum_any _ _ _ _ _ W (hls2.below hW).sl (HTT.out _ (Ext.trans hE hW)) (by omega))
          have CR := Lib.hid (show ∀ W, Ext wr W → Calls Tryd.prog 12 #[.slice (some ⟨b, off, none⟩) k cap] W fun e w' => ∃ v, e = .returned v ∧ Dn w' v dt ∧ Ext W w' from fun W hW => by
            rw [← hdt]; exact refSum_any _ _ _ _ _ W (hls2.below hW).sl (hls2.below hW).dl (HTT.out _ (Ext.trans hE hW)) (by omega))
          have CB := Lib.hid (show ∀ W, Ext wr W → Calls Tryd.prog 9 #[.slice ro k rcap] W fun e w' => ∃ v, e = .returned v ∧ Dn w' v dt ∧ Ext W w' from fun W hW => by
            rw [← hdt, ← HREV.out]; exact dsum_any _ _ _ _ _ W (hback.below hW) (HTT.out _ (Ext.trans hE hW)) (by omega))
          have HL2 := Lib.hid hls2
          have HDT := Lib.hid hdt
          clear hback hls2 hcells HLS hdt hown hB HR
          go_wp2_with fail
          refine (CP.out _).mono ?_
          rintro e w3 ⟨kk, hkk, rfl, rfl⟩
          have hkk2 : kk ≤ k := by omega
          have hkc : (kk : Int) ≤ (cap : Int) := by omega
          have hkk0 : (0 : Int) ≤ (kk : Int) := by omega
          have hkki : (kk : Int) ≤ (k : Int) := by omega
          have hkki2 : k ≤ cap := hcp
          have HCUT : Hid (dadd (dtotal (D.take kk)) (dtotal (D.drop kk)) = dt) := Lib.hid (by rw [HCK.out kk, HDT.out])
          obtain ⟨dk, hdk⟩ : ∃ d, dtotal (D.take kk) = d := ⟨_, rfl⟩
          obtain ⟨dd, hdd⟩ : ∃ d, dtotal (D.drop kk) = d := ⟨_, rfl⟩
          rw [hdk, hdd] at HCUT
          have HDK := Lib.hid hdk
          have HDD := Lib.hid hdd
          clear hdk hdd
          go_wp2_with fail
          refine (CS.out _ (Ext.refl _)).mono ?_
          rintro e w4 ⟨v, rfl, hvs, hw⟩
          obtain ⟨sb, sn, so, sk, sc, se, rfl⟩ := hvs.parts
          have hE4 := hw
          clear hw
          go_upto_region 15 with fail
          obtain ⟨V, hV, hVB, hbs, hvz⟩ := dbox_new w4 sb sn so sk sc se
          rw [← hV]
          clear hV
          have hE4 := Ext.trans hE4 hVB
          have hvs := hvs.ext hVB
          clear hVB hvz
          generalize w4.heap.size = Ps at *
          have hex : Ext V V.drew := (Below.refl _ _).drew
          have HEV := Lib.hid hE4
          have CTV := Lib.hid (show ∀ W, Ext V W → Calls Tryd.prog 9 #[.slice (some ⟨b, off, none⟩) kk cap] W fun e w' => ∃ v, e = .returned v ∧ Dn w' v dk ∧ Ext W w' from fun W hW => by rw [← HDK.out]; exact dsum_any _ _ _ _ _ W ((HL2.out.below (Ext.trans HEV.out hW)).take kk hkk2).sl (HTT.out _ (Ext.trans (Ext.trans hE HEV.out) hW)) (by omega))
          have CDV := Lib.hid (show ∀ W (A : Option Addr), (0 < k - kk → A = some ⟨b, off + kk * 4, none⟩) → Ext V W → Calls Tryd.prog 9 #[.slice A (k - kk) (cap - kk)] W fun e w' => ∃ v, e = .returned v ∧ Dn w' v dd ∧ Ext W w' from fun W A hA hW => by rw [← HDD.out]; exact dsum_any _ _ _ _ _ W ((HL2.out.below (Ext.trans HEV.out hW)).drop kk hkk2 A hA).sl (HTT.out _ (Ext.trans (Ext.trans hE HEV.out) hW)) (by omega))
          have HTV := Lib.hid (fun W (hW : Ext V W) => HTT.out W (Ext.trans (Ext.trans hE HEV.out) hW))
          clear hE4
          obtain ⟨A, hA⟩ : ∃ A, (if cap = kk then some (⟨b, off, none⟩ : Addr) else some ⟨b, off + kk * 4, none⟩) = A := ⟨_, rfl⟩
          have HAA := Lib.hid (show 0 < k - kk → A = some ⟨b, off + kk * 4, none⟩ from fun h0 => by rw [← hA]; exact if_neg (by omega))
          go_cut [10] from 49 (fun pp wx => ∃ zb zn zo zk zc ze Pz, pp = .pointer (some ⟨Pz, 0, none⟩) ∧ Dn wx (.agg #[.bool zb, .bool zn, .slice zo zk zc, .int .i64 ze]) dt ∧ DBox wx Pz zb zn zo zk zc ze ∧ Ext V wx)
          case first =>
            have TAG1 := Lib.hid trivial
            go_region_with (first
              | (go_at_call 9; clear TAG1; refine (CTV.out _  (by first | assumption | exact ext_alloc0 (by assumption) _ | exact ext_ad0 _ _)).mono ?_; rintro e wa ⟨va, rfl, hva, hwa⟩; have exa : Ext V wa := Ext.trans (by first | assumption | exact ext_alloc0 (by assumption) _ | exact ext_ad0 _ _) hwa; first | (have bz := dbox_after20 (w := V) hwa; have hgz : V.heap.size ≤ V.heap.size := Nat.le_refl _) | skip)
              | (go_at_call 9; refine (CDV.out _ _ HAA.out (by first | assumption | exact ext_alloc0 (by assumption) _ | exact ext_ad0 _ _)).mono ?_; rintro e wb ⟨vb, rfl, hvb, hwb⟩; have exb : Ext V wb := Ext.trans (by first | assumption | exact ext_alloc0 (by assumption) _ | exact ext_ad0 _ _) hwb; have hab : Ext wa wb := (by first | exact hwb | exact Ext.trans (ext_alloc0 (Ext.refl _) _) hwb); have hva := hva.ext hab; first | (have bz := bz.ext hab) | (have bz := dbox_after0 (w := wa) hwb; have hgz : V.heap.size ≤ wa.heap.size := Below.size exa) | skip)
              | (go_at_call 10; refine (dadd_any _ _ _ _ _ (by first | exact hva.dg | exact (hva.ext (ext_alloc0 (Ext.refl _) _)).dg) (by first | exact hvb.dg | exact (hvb.ext (ext_alloc0 (Ext.refl _) _)).dg) (HTV.out _ (by first | assumption | exact ext_alloc0 (by assumption) _ | exact ext_ad0 _ _))).mono ?_; rintro e wd ⟨vd, rfl, hvd, hwd⟩; rw [HCUT.out] at hvd; have exd : Ext V wd := Ext.trans (by first | assumption | exact ext_alloc0 (by assumption) _ | exact ext_ad0 _ _) hwd; have hbd : Ext wb wd := (by first | exact hwd | exact Ext.trans (ext_alloc0 (Ext.refl _) _) hwd); obtain ⟨zb, zn, zo, zk, zc, ze, rfl⟩ := hvd.parts; (first | (have bz := bz.ext hbd) | (have bz := dbox_after0 (w := wb) hwd; have hgz : V.heap.size ≤ wb.heap.size := Below.size exb) | skip); (first | (have y0 := bz.c0; have y1 := bz.c1; have y2 := bz.c2; have y3 := bz.c3; have g0 := bz.f 0; have g1 := bz.f 1; have g2 := bz.f 2; have g3 := bz.f 3) | skip)))
            all_goals
              go_wp2
              go_meet
            all_goals
              first
                | (obtain ⟨st1, st2, st3⟩ := box_stored0 (W := V) bz hvd exd hgz; exact ⟨zb, zn, zo, zk, zc, ze, _, rfl, st1, st2, st3⟩)
                | exact ⟨zb, zn, zo, zk, zc, ze, _, rfl, hvd.ext (ext_alloc0 (Ext.refl _) _), DBox.new _ zb zn zo zk zc ze, ext_alloc0 exd _⟩
          case rest =>
            obtain ⟨zb, zn, zo, zk, zc, ze, Pz, rfl, hvz, hbz, hEz⟩ := hcut
            have hvs := hvs.ext hEz
            have hbs := hbs.ext hEz
            have hE5 := Ext.trans HEV.out hEz
            clear hEz hex CTV CDV HTV HEV
            generalize wc = V3 at *
            have HC := Lib.hid (show ∀ wx, Ext V3 wx → (wx.cell? ⟨Ps, 0, none⟩ = some (.bool sb) ∧ wx.cell? ⟨Ps, 1, none⟩ = some (.bool sn) ∧ wx.cell? ⟨Ps, 2, none⟩ = some (.slice so sk sc) ∧ wx.cell? ⟨Ps, 3, none⟩ = some (.int .i64 se)) ∧ (wx.cell? ⟨Pz, 0, none⟩ = some (.bool zb) ∧ wx.cell? ⟨Pz, 1, none⟩ = some (.bool zn) ∧ wx.cell? ⟨Pz, 2, none⟩ = some (.slice zo zk zc) ∧ wx.cell? ⟨Pz, 3, none⟩ = some (.int .i64 ze)) from fun wx h => ⟨⟨(hbs.ext h).c0, (hbs.ext h).c1, (hbs.ext h).c2, (hbs.ext h).c3⟩, (hbz.ext h).c0, (hbz.ext h).c1, (hbz.ext h).c2, (hbz.ext h).c3⟩)
            clear hbs hbz
            obtain ⟨⟨k0, k1, k2, k3⟩, l0, l1, l2, l3⟩ := HC.out V3 (Ext.refl _)
            have HE := Lib.hid (Ext.trans hE hE5)
            have CRV := Lib.hid (fun W (hW : Ext V3 W) => CR.out W (Ext.trans hE5 hW))
            have CBV := Lib.hid (fun W (hW : Ext V3 W) => CB.out W (Ext.trans hE5 hW))
            have AWV := Lib.hid (fun W (hW : Ext V3 W) => AW.out W (Ext.trans HE.out hW))
            have hex : Ext V3 V3.drew := (Below.refl _ _).drew
            have st0 : DSt V3 V3.drew [⟨.agg #[.bool sb, .bool sn, .slice so sk sc, .int .i64 se], dt, true⟩, ⟨.agg #[.bool zb, .bool zn, .slice zo zk zc, .int .i64 ze], dt, true⟩] := by
              refine ⟨hex, (HTT.out _ HE.out).below hex, fun p hp => ?_⟩
              simp only [List.mem_cons, List.not_mem_nil, or_false] at hp
              rcases hp with rfl | rfl
              · exact dok_dn (hvs.ext hex)
              · exact dok_dn (hvz.ext hex)
            clear hvs hvz hE5
            go_upto_region 16 with fail
            go_region_held3 (fun wx => (wx.cell? ⟨Ps, 0, none⟩ = some (.bool sb) ∧ wx.cell? ⟨Ps, 1, none⟩ = some (.bool sn) ∧ wx.cell? ⟨Ps, 2, none⟩ = some (.slice so sk sc) ∧ wx.cell? ⟨Ps, 3, none⟩ = some (.int .i64 se)) ∧ (wx.cell? ⟨Pz, 0, none⟩ = some (.bool zb) ∧ wx.cell? ⟨Pz, 1, none⟩ = some (.bool zn) ∧ wx.cell? ⟨Pz, 2, none⟩ = some (.slice zo zk zc) ∧ wx.cell? ⟨Pz, 3, none⟩ = some (.int .i64 ze)))
              (first | exact HC.out _ (by first | assumption | exact DSt.ext (by assumption)))
              (first
                | (go_at_call 12; refine (CRV.out _ (DSt.ext (W := V3) (by assumption))).mono ?_; rintro e wn ⟨v, rfl, hv, hw⟩; have stn := DSt.push (W := V3) (by assumption) hw (dok_dn hv); clear hv hw)
                | (go_at_call 9; refine (CBV.out _ (DSt.ext (W := V3) (by assumption))).mono ?_; rintro e wn ⟨v, rfl, hv, hw⟩; have stn := DSt.push (W := V3) (by assumption) hw (dok_dn hv); clear hv hw)
                | (go_at_call 11; refine (dkit_bag (W := V3) (by assumption) (by repeat (first | exact List.Mem.head _ | refine List.Mem.tail _ ?_)) (by repeat (first | exact List.Mem.head _ | refine List.Mem.tail _ ?_)) rfl).mono ?_; rintro e wn ⟨rfl, stn⟩)
                | (go_at_call 6; refine (AWV.out _ (DSt.ext (W := V3) (by assumption))).mono ?_; rintro e wn ⟨rfl, hw⟩; have stn := DSt.step (W := V3) (by assumption) hw; clear hw))
            have hfin := Lib.hid (Ext.trans HE.out (DSt.ext (W := V3) stn))
            go_wp2
            go_ret
            exact ⟨rfl, hfin.out⟩
end Go.Proofs.YtilmighjcjgccaaDoor
