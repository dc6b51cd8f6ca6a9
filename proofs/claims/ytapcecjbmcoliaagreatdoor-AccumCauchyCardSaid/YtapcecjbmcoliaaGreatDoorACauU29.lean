import Derived.Test.YtapcecjbmcoliaaGreatDoorACauU27
import Derived.Test.YtapcecjbmcoliaaGreatDoorACauU24
import Derived.Test.YtapcecjbmcoliaaGreatDoorACauU28
import Derived.Test.YtapcecjbmcoliaaGreatDoorACauU4
namespace Go.Proofs.YtapcecjbmcoliaaGreatDoor
open Go Go.RowKit

set_option maxRecDepth 100000 in
/-- a new array of zeros, as one step of a region that draws -/
theorem mk_any (n : Nat) (hn : n ≤ 1000000) : ∃ O, (∀ w, (Instr.makeSlice 25 (.int .i64 (n : Int)) (.int .i64 (n : Int))).run Tryz.prog w = .ok (.slice (some ⟨w.heap.size, 0, none⟩) n n) (w.alloc O)) ∧ ∀ w : World, Blk (w.alloc O) w.heap.size (List.replicate n 0) := by
  obtain ⟨i0, hi, hz0, hz1, hz2⟩ := info_parts Tryz.infoU32
  have h := fun w => run_make (P := Tryz.prog) w 25 47 i0 (.int .u32 0) Tryz.underlying25 hi hz0 .i64 .i64 (n : Int) (n : Int) (by omega) (by omega) (by rw [hz2]; omega) (by omega)
  simp only [Int.toNat_natCast] at h
  refine ⟨_, h, fun w => ?_⟩
  unfold Blk
  rw [heap_alloc_new, hz1, Nat.mul_one]
  congr 2
  apply Array.ext'
  show (madeCells #[Value.int .u32 0] _).toList = _
  rw [toList_madeCells_one]
  simp

theorem two_made {V : World} {O : Obj} {n : Nat} (h : ∀ w : World, Blk (w.alloc O) w.heap.size (List.replicate n 0)) {B : Nat} (hB : B ≤ V.heap.size) :
    Blk ((V.alloc O).alloc O).drew V.heap.size (List.replicate n 0) ∧ Blk ((V.alloc O).alloc O).drew (V.heap.size + 1) (List.replicate n 0) ∧ Below B V ((V.alloc O).alloc O).drew := by
  have e1 := h V
  have e2 := h (V.alloc O)
  rw [show (V.alloc O).heap.size = V.heap.size + 1 by simp] at e2
  exact ⟨(e1.below ((Below.refl _ _).alloc (Nat.le_refl _) O)).drew, e2.drew, (((Below.refl _ _).alloc hB _).alloc (by simp; omega) _).drew⟩

theorem cast_ab (A b k : Nat) : ((A + b * 2 ^ k : Nat) : Int) = (A : Int) + (b : Int) * 2 ^ k := by push_cast; rfl

/-- a term in memory -/
theorem term_at {w W : World} {ao : Option Addr} {n cap : Nat} {l : List DP} {D : List Dy} {T : List (Int × Int)} (h : DSl w ao n cap l D) (hD : D = T.map some) (hN : ∀ j, j < n → Dn w (l.getD j DP.zero).v (D.getD j none)) (hb : Ext w W) (j : Nat) (hj : j < n) :
    ∃ b off nb bo m cb, ao = some ⟨b, off, none⟩ ∧ W.cell? ⟨b, off + 4 * j, none⟩ = some (.bool false) ∧ W.cell? ⟨b, off + 4 * j + 1, none⟩ = some (.bool nb) ∧ W.cell? ⟨b, off + 4 * j + 2, none⟩ = some (.slice bo m cb) ∧
      W.cell? ⟨b, off + 4 * j + 3, none⟩ = some (.int .i64 (T.getD j (0, 0)).2) ∧ Bn W nb bo m cb (T.getD j (0, 0)).1 ∧
      ∀ g W', Ext w W' → w.heap.size ≤ g → Stay g W' bo (limbs (T.getD j (0, 0)).1.natAbs) := by
  have h' := h.below hb
  obtain ⟨b, off, e, hc⟩ := h'.cells (by omega)
  obtain ⟨c0, c1, c2, c3⟩ := hc j hj
  have hr0 := hN j hj
  have hl := h.lenD
  have hlt : j < T.length := by rw [hD, List.length_map] at hl; omega
  have hg : D.getD j none = some (T.getD j (0, 0)) := by rw [hD]; simp [List.getD, hlt]
  rw [hg] at hr0
  obtain ⟨h1, h2, h3⟩ := Dn.get hr0
  refine ⟨b, off, _, _, _, _, e, ?_, c1, c2, ?_, h3.below hb, fun g W' hW hg => h3.sl.cells.stay_below hW hg⟩
  · rw [c0, h1]; rfl
  · rw [c3, h2]; rfl

set_option maxRecDepth 100000 in
set_option maxHeartbeats 4000000 in
theorem total_any (ao : Option Addr) (n cap : Nat) (l : List DP) (D : List Dy) (T : List (Int × Int)) (w : World) (h : DSl w ao n cap l D) (hD : D = T.map some) (hok : ∀ t ∈ T, TermOk t) (hN : ∀ j, j < n → Dn w (l.getD j DP.zero).v (D.getD j none)) (hT : Table w) (hn : n ≤ 1000000) :
    Calls Tryz.prog 45 #[.slice ao n cap] w fun e w' => ∃ v, e = .returned v ∧ Dn w' v (dmk (scs D) (-65536)) ∧ Ext w w' := by
  have hTl : T.length = n := by have := h.lenD; rw [hD, List.length_map] at this; exact this
  have HD := Lib.hid hD
  have HTL := Lib.hid hTl
  obtain ⟨hlo0, hlo1, hlo⟩ := lowT_facts hok
  obtain ⟨hhi0, hhi1, hhi⟩ := highT_facts hok
  have hterm := fun W (hb : Ext w W) j hj => term_at h hD hN hb j hj
  have HTERM := Lib.hid hterm
  have HOK := Lib.hid hok
  have HLO := Lib.hid hlo
  have HHI := Lib.hid hhi
  clear hterm hok hlo hhi hTl hD hN h
  go_enter Tryz.func45, Tryz.ntmps45
  go_upto_region 1 with fail
  obtain ⟨W, hW, hB, hbx, hz⟩ := dbox_new w false false none 0 0 0
  rw [← hW]
  clear hW
  have HT := Lib.hid hT; clear hT
  generalize hBe : w.heap.size = B at *
  have HBe := Lib.hid hBe
  have HEX : ∀ wx, Below B w wx → Ext w wx := fun wx h => by rw [← hBe] at h; exact h
  have HEX := Lib.hid HEX
  clear hBe
  go_wp2
  go_loopw [3, 4, 6, 14] (fun lo hi _ ix wr => ∃ j : Nat, j ≤ n ∧ ix = .int .i64 j ∧ lo = .int .i64 (lowT (T.take j)) ∧ hi = .int .i64 (highT (T.take j)) ∧ Below B w wr ∧ DBox wr B false false none 0 0 0) (fun _ _ _ ix _ => n - (intOf ix).toNat)
  case atStart => exact ⟨0, Nat.zero_le _, rfl, rfl, rfl, hB, hbx⟩
  case round =>
    obtain ⟨j, hj, rfl, rfl, rfl, hE, hbr⟩ := hrel
    by_cases hlt : j < n
    · obtain ⟨b, off, nb, bo, m, cb, rfl, c0, c1, c2, c3, hbn, -⟩ := HTERM.out wr (HEX.out _ hE) j hlt
      have hlow := lowT_next (l := T) (j := j) (by rw [HTL.out]; exact hlt)
      have hhigh := highT_next (l := T) (j := j) (by rw [HTL.out]; exact hlt)
      have htok : TermOk (T.getD j (0, 0)) := by
        have e : T.getD j (0, 0) = T[j]'(by rw [HTL.out]; exact hlt) := by simp [List.getD, show j < T.length by rw [HTL.out]; exact hlt]
        rw [e]; exact HOK.out _ (List.getElem_mem _)
      have hl0 := lowT_facts (l := T.take j) (fun t ht => HOK.out t (List.mem_of_mem_take ht))
      have hh0 := highT_facts (l := T.take j) (fun t ht => HOK.out t (List.mem_of_mem_take ht))
      obtain ⟨lo, hlo⟩ : ∃ lo, lowT (T.take j) = lo := ⟨_, rfl⟩
      obtain ⟨hi, hhi⟩ : ∃ hi, highT (T.take j) = hi := ⟨_, rfl⟩
      obtain ⟨tm, te, ht⟩ : ∃ tm te, T.getD j (0, 0) = (tm, te) := ⟨_, _, rfl⟩
      rw [ht] at c3 hbn htok hlow hhigh
      rw [hlo] at hlow hl0 ⊢
      rw [hhi] at hhigh hh0 ⊢
      obtain ⟨hl0, hl1, _⟩ := hl0
      obtain ⟨hh0, hh1, _⟩ := hh0
      obtain ⟨_, ht1, ht2⟩ := htok
      simp only at ht1 ht2 hlow hhigh c3 hbn
      have hw9 := hE.size
      have HLOW := Lib.hid hlow
      have HHIGH := Lib.hid hhigh
      clear hlow hhigh hlo hhi ht
      have hbg : Bg wr nb bo m cb tm := bn_bg_of hbn (by omega)
      have e4 : off + j * 4 = off + 4 * j := by omega
      go_wp2
      obtain ⟨V, hV, hVB, hvx, hvz⟩ := dbox_new wr false nb bo m cb te
      rw [← hV]
      clear hV
      obtain ⟨hEV, hEV'⟩ := bnext hE (by have := hbr.lt; omega) hVB
      have hbr := hbr.below hVB
      have hbg := hbg.below hVB
      obtain ⟨bl, hbl⟩ : ∃ bl, blen tm.natAbs = bl := ⟨_, rfl⟩
      rw [hbl] at ht2 HHIGH
      have HBL := Lib.hid hbl; clear hbl
      clear hbn c0 c1 c2 c3 hE hVB
      generalize wr.heap.size = C at hvx hvz ⊢
      have c0 := hvx.c0
      have c1 := hvx.c1
      have c2 := hvx.c2
      have c3 := hvx.c3
      have hc : ∀ wx, Ext V wx → wx.cell? ⟨C, 0, none⟩ = some (.bool false) ∧ wx.cell? ⟨C, 1, none⟩ = some (.bool nb) ∧ wx.cell? ⟨C, 2, none⟩ = some (.slice bo m cb) ∧ wx.cell? ⟨C, 3, none⟩ = some (.int .i64 te) := fun wx h => ⟨(hvx.ext h).c0, (hvx.ext h).c1, (hvx.ext h).c2, (hvx.ext h).c3⟩
      have HC := Lib.hid hc; clear hc
      have hex : Ext V V.drew := (Below.refl _ _).drew
      go_region_held3 (fun wx => wx.cell? ⟨C, 0, none⟩ = some (.bool false) ∧ wx.cell? ⟨C, 1, none⟩ = some (.bool nb) ∧ wx.cell? ⟨C, 2, none⟩ = some (.slice bo m cb) ∧ wx.cell? ⟨C, 3, none⟩ = some (.int .i64 te))
        (first | exact HC.out _ (by assumption))
        (first
          | (go_at_call 24; refine (dtop_any _ _ _ _ _ _ _ _ (by exact hbg.below (Below.refl _ _).drew) (by omega) (by omega)).mono ?_; rintro e w1 ⟨rfl, hw1⟩; have ex1 : Ext V w1 := hex.trans hw1; rw [HBL.out]))
      all_goals go_wp2
      all_goals obtain ⟨hE1, _⟩ := bnext hEV hEV' ex1
      all_goals exact ⟨⟨j + 1, by omega, by go_num, by rw [HLOW.out], by rw [HHIGH.out], hE1, hbr.below ex1⟩, by simp [intOf] <;> omega⟩
    · obtain rfl : j = n := by omega
      have hlt0 : T.take j = T := List.take_of_length_le (by rw [HTL.out]; exact Nat.le_refl _)
      rw [hlt0]
      obtain ⟨lo, hloe⟩ : ∃ lo, lowT T = lo := ⟨_, rfl⟩
      obtain ⟨hi, hhie⟩ : ∃ hi, highT T = hi := ⟨_, rfl⟩
      rw [hloe] at hlo0 hlo1 HLO ⊢
      rw [hhie] at hhi0 hhi1 HHI ⊢
      clear hloe hhie hlt0 hlt
      obtain ⟨wd, hwd⟩ : ∃ wd : Nat, max (hi - lo) 0 = (wd : Int) := ⟨(max (hi - lo) 0).toNat, by omega⟩
      have hwd1 : wd ≤ 131072 := by omega
      have hbits : ∃ bj, Lib.bitLen j = bj ∧ j < 2 ^ bj ∧ bj ≤ 32 := by
        refine ⟨_, rfl, ?_, bitLen_32 (by omega)⟩
        by_cases h0 : j = 0
        · subst h0; exact Nat.pow_pos (by omega)
        · obtain ⟨l, e, _, l1⟩ := bitLen_spec j h0 (by omega)
          rw [e]; exact l1
      obtain ⟨bj, hbj, hbj0, hbj1⟩ := hbits
      have HB0 := Lib.hid hbj0; clear hbj0
      go_wp2_with fail
      refine (Tryz.bits_Len (j : Int) _ (by omega) (by omega)).mono ?_
      rintro e w1 ⟨rfl, rfl⟩
      rw [show ((j : Int)).toNat = j by omega, hbj]
      obtain ⟨nl, hnl⟩ : ∃ nl : Nat, (wd + bj) / 32 + 1 = nl := ⟨_, rfl⟩
      have hnl1 : (((wd : Int) + (bj : Int)) / 32 + 1 = (nl : Int)) := by omega
      have hnl2 : nl ≤ 5000 := by omega
      have HNL := Lib.hid hnl; clear hnl
      go_wp2
      obtain ⟨O, hmk, hblk⟩ := mk_any nl (by omega)
      have hsz := hbr.lt
      obtain ⟨V, hV⟩ : ∃ V, V = w1 := ⟨_, rfl⟩
      subst hV
      go_cut [8, 9] from 36 (fun p m wx => ∃ g1 g2 : Nat, p = .slice (some ⟨g1, 0, none⟩) nl nl ∧ m = .slice (some ⟨g2, 0, none⟩) nl nl ∧ g1 ≠ g2 ∧ B + 1 ≤ g1 ∧ B + 1 ≤ g2 ∧ Blk wx g1 (List.replicate nl 0) ∧ Blk wx g2 (List.replicate nl 0) ∧ Below (B + 1) V wx)
      case first =>
        go_region
        all_goals
          go_wp2
          go_meet
        all_goals
          obtain ⟨e1, e2, e3⟩ := two_made (V := V) (B := B + 1) hblk (by omega)
          first
            | exact ⟨_, _, rfl, rfl, by omega, by omega, by omega, e1, e2, e3⟩
            | exact ⟨_, _, rfl, rfl, by omega, by omega, by omega, e2, e1, e3⟩
      case rest =>
        obtain ⟨g1, g2, rfl, rfl, hne, hg1, hg2, hb1, hb2, hBV⟩ := hcut
        have hbr := hbr.kept hBV (by omega)
        have hE := hE.trans (hBV.mono (Nat.le_succ B))
        have hfitP := signT_fits (s := false) (f := lo) (W := wd) (k := j) (b := bj) (n := nl) (l := T) (fun t ht => ⟨HLO.out t ht, by have := HHI.out t ht; omega⟩) HTL.out HB0.out (by have := HNL.out; omega)
        have hfitM := signT_fits (s := true) (f := lo) (W := wd) (k := j) (b := bj) (n := nl) (l := T) (fun t ht => ⟨HLO.out t ht, by have := HHI.out t ht; omega⟩) HTL.out HB0.out (by have := HNL.out; omega)
        have HFP := Lib.hid hfitP; clear hfitP
        have HFM := Lib.hid hfitM; clear hfitM
        clear hBV hmk hblk
        obtain ⟨w0, hw0⟩ : ∃ w0, w0 = wc := ⟨_, rfl⟩
        subst hw0
        go_wp2
        go_loopw [11, 46] (fun _ ix wr => ∃ (i : Nat) (P M : List Int), i ≤ j ∧ ix = .int .i64 i ∧ Blk wr g1 P ∧ Blk wr g2 M ∧ (P.length = nl ∧ Wf P ∧ num P = (signT false lo (T.take i) : Int)) ∧ (M.length = nl ∧ Wf M ∧ num M = (signT true lo (T.take i) : Int)) ∧ Below B w wr ∧ DBox wr B false false none 0 0 0)
          (fun _ ix _ => j - (intOf ix).toNat)
        case atStart => exact ⟨0, _, _, Nat.zero_le _, rfl, hb1, hb2, ⟨by simp, Wf.replicate _, by simp [num_replicate, signT]⟩, ⟨by simp, Wf.replicate _, by simp [num_replicate, signT]⟩, hE, hbr⟩
        case round =>
          obtain ⟨i, P, M, hi, rfl, hb1, hb2, hP, hM, hE, hbr⟩ := hrel
          by_cases hlt : i < j
          · obtain ⟨b, off, nb, bo, m, cb, rfl, c0, c1, c2, c3, hbn, hstay⟩ := HTERM.out wr (HEX.out _ hE) i hlt
            have htok : TermOk (T.getD i (0, 0)) := by
              have e : T.getD i (0, 0) = T[i]'(by rw [HTL.out]; exact hlt) := by simp [List.getD, show i < T.length by rw [HTL.out]; exact hlt]
              rw [e]; exact HOK.out _ (List.getElem_mem _)
            have hlte : lo ≤ (T.getD i (0, 0)).2 := by
              have e : T.getD i (0, 0) = T[i]'(by rw [HTL.out]; exact hlt) := by simp [List.getD, show i < T.length by rw [HTL.out]; exact hlt]
              rw [e]; exact HLO.out _ (List.getElem_mem _)
            obtain ⟨tm, te, ht⟩ : ∃ tm te, T.getD i (0, 0) = (tm, te) := ⟨_, _, rfl⟩
            have HTT := Lib.hid ht
            rw [ht] at c3 hbn htok hlte hstay
            clear ht
            obtain ⟨ht0, ht1, ht2⟩ := htok
            simp only at ht0 ht1 ht2 hlte c3 hbn hstay
            have hne0 : tm.natAbs ≠ 0 := by omega
            have hneg := hbn.neg
            have e4 : off + i * 4 = off + 4 * i := by omega
            have hsz2 := hbr.lt
            have hl1 := hb1.lt
            have hl2 := hb2.lt
            by_cases hsg : tm < 0
            · obtain rfl : nb = true := by rw [hneg]; simp [hsg]
              clear hneg
              go_wp2_with fail
              obtain ⟨V2, hV, hVB, hvx, hvz⟩ := dbox_new wr false true bo m cb te
              rw [← hV]
              clear hV
              obtain ⟨hEV, hEV'⟩ := bnext hE (by omega) hVB
              have hbn := hbn.below hVB
              clear c0 c1 c2 c3 hvz hvx
              have hnum := signT_next true lo (l := T) (j := i) (by rw [HTL.out]; exact hlt)
              have hoth := signT_next false lo (l := T) (j := i) (by rw [HTL.out]; exact hlt)
              rw [HTT.out] at hnum hoth
              simp only at hnum hoth
              rw [if_pos (by simp [hsg])] at hnum
              rw [if_neg (by simp [hsg])] at hoth
              have hle := signT_take_le true lo T (i + 1)
              have hfit : num M + (tm.natAbs : Int) * 2 ^ (te - lo).toNat < 4294967296 ^ nl := by
                rw [hM.2.2]
                have h1 : ((signT true lo (T.take (i + 1)) : Nat) : Int) < ((4294967296 ^ nl : Nat) : Int) := Int.ofNat_lt.2 (Nat.lt_of_le_of_lt hle HFM.out)
                rw [hnum] at h1
                rw [cast_ab, Int.natCast_pow] at h1
                exact h1
              have C := Lib.hid (addShifted_any g2 nl nl m cb (te - lo).toNat (te - lo) bo M tm.natAbs V2 (by omega) (hb2.below hVB) hM.1 hM.2.1 (by omega) (Nat.le_refl _) hne0 hbn.sl.len (hstay g2 V2 (HEX.out _ hEV) (by omega)) hfit)
              have hnum' : num M + (tm.natAbs : Int) * 2 ^ (te - lo).toNat = (signT true lo (T.take (i + 1)) : Int) := by rw [hnum, hM.2.2]; rw [cast_ab]
              have hoth' : num P = (signT false lo (T.take (i + 1)) : Int) := by rw [hP.2.2, hoth, Nat.add_zero]
              have HNUM := Lib.hid hnum'; clear hnum' hnum
              have HOTH := Lib.hid hoth'; clear hoth' hoth hle hfit hstay hbn
              have H1 := Lib.hid hP; clear hP hM
              have hob := hb1.below hVB
              have hbr := hbr.below hVB
              clear hb1 hb2 hVB hE
              refine C.out.mono ?_
              rintro e w3 ⟨rfl, P', hp1, hp2, hp3, hp4, hp5⟩
              have hob := hob.only hp5 (by omega)
              have hbr := hbr.only hp5 (by omega)
              have hE3 := hEV.trans (hp5.below (B := B) (by omega))
              rw [HNUM.out] at hp4
              have H4 := Lib.hid hp4; clear hp4
              go_wp2
              go_roundw
              case rel => exact ⟨i + 1, P, P', by omega, by go_num, hob, hp1, ⟨H1.out.1, H1.out.2.1, HOTH.out⟩, ⟨hp2, hp3, H4.out⟩, hE3, hbr⟩
              case measure => simp [intOf] <;> omega
            · obtain rfl : nb = false := by rw [hneg]; simp [hsg]
              clear hneg
              go_wp2_with fail
              obtain ⟨V2, hV, hVB, hvx, hvz⟩ := dbox_new wr false false bo m cb te
              rw [← hV]
              clear hV
              obtain ⟨hEV, hEV'⟩ := bnext hE (by omega) hVB
              have hbn := hbn.below hVB
              clear c0 c1 c2 c3 hvz hvx
              have hnum := signT_next false lo (l := T) (j := i) (by rw [HTL.out]; exact hlt)
              have hoth := signT_next true lo (l := T) (j := i) (by rw [HTL.out]; exact hlt)
              rw [HTT.out] at hnum hoth
              simp only at hnum hoth
              rw [if_pos (by simp [hsg])] at hnum
              rw [if_neg (by simp [hsg])] at hoth
              have hle := signT_take_le false lo T (i + 1)
              have hfit : num P + (tm.natAbs : Int) * 2 ^ (te - lo).toNat < 4294967296 ^ nl := by
                rw [hP.2.2]
                have h1 : ((signT false lo (T.take (i + 1)) : Nat) : Int) < ((4294967296 ^ nl : Nat) : Int) := Int.ofNat_lt.2 (Nat.lt_of_le_of_lt hle HFP.out)
                rw [hnum] at h1
                rw [cast_ab, Int.natCast_pow] at h1
                exact h1
              have C := Lib.hid (addShifted_any g1 nl nl m cb (te - lo).toNat (te - lo) bo P tm.natAbs V2 (by omega) (hb1.below hVB) hP.1 hP.2.1 (by omega) (Nat.le_refl _) hne0 hbn.sl.len (hstay g1 V2 (HEX.out _ hEV) (by omega)) hfit)
              have hnum' : num P + (tm.natAbs : Int) * 2 ^ (te - lo).toNat = (signT false lo (T.take (i + 1)) : Int) := by rw [hnum, hP.2.2]; rw [cast_ab]
              have hoth' : num M = (signT true lo (T.take (i + 1)) : Int) := by rw [hM.2.2, hoth, Nat.add_zero]
              have HNUM := Lib.hid hnum'; clear hnum' hnum
              have HOTH := Lib.hid hoth'; clear hoth' hoth hle hfit hstay hbn
              have H1 := Lib.hid hM; clear hP hM
              have hob := hb2.below hVB
              have hbr := hbr.below hVB
              clear hb1 hb2 hVB hE
              refine C.out.mono ?_
              rintro e w3 ⟨rfl, P', hp1, hp2, hp3, hp4, hp5⟩
              have hob := hob.only hp5 (by omega)
              have hbr := hbr.only hp5 (by omega)
              have hE3 := hEV.trans (hp5.below (B := B) (by omega))
              rw [HNUM.out] at hp4
              have H4 := Lib.hid hp4; clear hp4
              go_wp2
              go_roundw
              case rel => exact ⟨i + 1, P', M, by omega, by go_num, hp1, hob, ⟨hp2, hp3, H4.out⟩, ⟨H1.out.1, H1.out.2.1, HOTH.out⟩, hE3, hbr⟩
              case measure => simp [intOf] <;> omega
          · obtain rfl : i = j := by omega
            have hlt0 : T.take i = T := List.take_of_length_le (by rw [HTL.out]; exact Nat.le_refl _)
            rw [hlt0] at hP hM
            have hgP : Bg wr false (some ⟨g1, 0, none⟩) nl nl (signT false lo T) := ⟨⟨P, hb1.sl hP.2.1 hP.1 (by omega) (Nat.le_refl _), by unfold sgd; simp; rw [hP.2.2]⟩, by omega⟩
            have hgM : Bg wr false (some ⟨g2, 0, none⟩) nl nl (signT true lo T) := ⟨⟨M, hb2.sl hM.2.1 hM.1 (by omega) (Nat.le_refl _), by unfold sgd; simp; rw [hM.2.2]⟩, by omega⟩
            have hdm := signT_dmk (f := lo) (l := T) (by omega) HLO.out
            rw [← HD.out] at hdm
            have HDM := Lib.hid hdm
            obtain ⟨x, hx⟩ : ∃ x : Int, (signT false lo T : Int) = x := ⟨_, rfl⟩
            obtain ⟨y, hy⟩ : ∃ y : Int, (signT true lo T : Int) = y := ⟨_, rfl⟩
            rw [hx] at hgP HDM
            rw [hy] at hgM HDM
            have hsml : blen (x - y).natAbs ≤ 1000000 := by
              have hx1 : x.natAbs < 2 ^ (32 * nl) := by
                have e : (2 : Nat) ^ (32 * nl) = 4294967296 ^ nl := by rw [Nat.pow_mul]
                have := HFP.out; rw [e]; omega
              have hy1 : y.natAbs < 2 ^ (32 * nl) := by
                have e : (2 : Nat) ^ (32 * nl) = 4294967296 ^ nl := by rw [Nat.pow_mul]
                have := HFM.out; rw [e]; omega
              have h3 := blen_le_of_lt (show (x - y).natAbs < 2 ^ (32 * nl + 1) by rw [Nat.pow_succ]; omega)
              omega
            clear hx hy hdm hP hM hlt0 hb1 hb2 hlt
            have hsz3 := hbr.lt
            go_wp2_with fail
            refine (sub_any _ _ _ _ _ _ _ _ _ _ _ hgP hgM).mono ?_
            rintro e w3 ⟨nr, ro, k, cr, rfl, hr, hw3⟩
            have hgr := bn_bg_of hr hsml
            have hbr := hbr.below hw3
            obtain ⟨hE3, hE3'⟩ := bnext hE (by omega) hw3
            have hT3 := Lib.hid (HT.out.below (HEX.out _ hE3))
            go_wp2_with fail
            refine (dreduce_any _ _ _ _ _ _ _ hgr (by omega) (by omega) hT3.out).mono ?_
            rintro e w4 ⟨v, rfl, hv, hw4⟩
            rw [HDM.out] at hv
            obtain ⟨rb, rn, ro2, rk, rc, re, rfl⟩ := hv.parts
            have bx := hbr.below hw4
            obtain ⟨hE4, hE4'⟩ := bnext hE3 (by omega) hw4
            clear hbr hE hE3 hr hgr hw3 hw4
            have q0 := bx.c0
            have q1 := bx.c1
            have q2 := bx.c2
            have q3 := bx.c3
            have f0 := bx.f 0
            have f1 := bx.f 1
            have f2 := bx.f 2
            have f3 := bx.f 3
            have hres := dn_stored bx hv w hE4 (Nat.le_refl B)
            have z3 := bx.stored rb rn ro2 rk rc re
            have z0 := z3.c0
            have z1 := z3.c1
            have z2 := z3.c2
            have z4 := z3.c3
            have HRES := Lib.hid hres; clear hres z3
            go_wp2
            refine bodyPost_ret (v := .agg #[.bool rb, .bool rn, .slice ro2 rk rc, .int .i64 re]) (by simp [results, Tryz.results45, go_sem, z0, z1, z2, z4]) rfl ⟨_, rfl, ?_, ?_⟩
            · exact HRES.out.1
            · show Below _ _ _; rw [HBe.out]; exact HRES.out.2
end Go.Proofs.YtapcecjbmcoliaaGreatDoor
