import Derived.Test.YtapcecjbmcoliaaGrLlU22
import Derived.Test.YtapcecjbmcoliaaGrLlU23
namespace Go.Proofs.Ytapcecjbmcoliaa
open Go Go.RowKit

theorem RS.mono {w : World} {B C : Nat} {v : Value} {rs : List Value} {M : List (List Int)} (h : RS w B v rs M) (hb : C ≤ B) : RS w C v rs M := by
  refine ⟨?_, h.len, fun i hi => (h.row i hi).mono hb, h.ne, h.nb⟩
  obtain ⟨h1, h2⟩ := h.own
  refine ⟨h1, ?_⟩
  rcases h2 with h2 | ⟨g, cap, cur, hv, hbb, r⟩
  · exact .inl h2
  · exact .inr ⟨g, cap, cur, hv, by omega, r⟩
/-- a store below -/
theorem RS.low {w : World} {B g j : Nat} {x v : Value} {rs : List Value} {M : List (List Int)} (h : RS w B v rs M) (hg : g < B) : RS (w.setCell ⟨g, j, none⟩ x) B v rs M :=
  h.far (fun k hk => (only_set1 w g j x).block k (by have := (World.ownsRow.lt h.own k hk).1; omega)) (fun i k hi hk => (only_set1 w g j x).block k (by have := ((h.row i hi).blk k hk).1; omega))
/-- a graph in a block of its own -/
def GBox (w : World) (g : Nat) (v : Value) : Prop := VBlk w g #[v] 27
theorem GBox.c {w : World} {g : Nat} {v : Value} (h : GBox w g v) : w.cell? ⟨g, 0, none⟩ = some v := by
  rw [VBlk.c h 0]; rfl
theorem GBox.f {w : World} {g : Nat} {v : Value} (h : GBox w g v) (o : Nat) : w.frozen? ⟨g, o, none⟩ = false := VBlk.f h o
theorem GBox.low {w w' : World} {g B : Nat} {v : Value} (h : GBox w g v) (hb : Below B w w') (hg : g < B) : GBox w' g v := by
  unfold GBox VBlk at h ⊢
  rw [hb.block g hg]; exact h
theorem GBox.set {w : World} {g : Nat} {v : Value} (h : GBox w g v) (x : Value) : GBox (w.setCell ⟨g, 0, none⟩ x) g x := VBlk.set h 0 x
theorem GBox.other {w : World} {g k j : Nat} {v x : Value} (h : GBox w g v) (hk : g ≠ k) : GBox (w.setCell ⟨k, j, none⟩ x) g v := VBlk.only h (only_set1 w k j x) hk
theorem gboxes_two (w : World) : ∃ W, W = (w.alloc (.cells #[.slice none 0 0] 27)).alloc (.cells #[.slice none 0 0] 27) ∧ Ext w W ∧ GBox W w.heap.size (.slice none 0 0) ∧ GBox W (w.heap.size + 1) (.slice none 0 0) ∧ W.heap.size = w.heap.size + 2 := by
  refine ⟨_, rfl, ((Below.refl _ w).alloc (Nat.le_refl _) _).alloc (by simp) _, ?_, ?_, by simp⟩
  · exact VBlk.below (VBlk.new w _ _) ((Below.refl _ _).alloc (Nat.le_refl _) _)
  · have := VBlk.new (w.alloc (.cells #[.slice none 0 0] 27)) #[.slice none 0 0] 27
    simpa [GBox] using this

set_option maxRecDepth 100000 in
set_option maxHeartbeats 8000000 in
theorem fromTable_any (ao : Option Addr) (n cap : Nat) (t : List (List Bool)) (w : World) (h : Tab w ao n cap n t) (hn : n ≤ 1000) :
    Calls Try.prog 38 #[.slice ao n cap] w fun e w' => ∃ v rs, e = .returned (.agg #[v]) ∧ RS w' w.heap.size v rs (adjM n (adjT t)) ∧ Ext w w' := by
  have HH := Lib.hid h
  have HL := Lib.hid h.len
  have HW := Lib.hid h.wid
  clear h
  go_enter Try.func38, Try.ntmps38
  go_upto_region 2 with fail
  obtain ⟨V, hV, hEV, b1, b2, hsz⟩ := gboxes_two w
  rw [← hV]
  clear hV
  obtain ⟨C, hCe⟩ : ∃ C, w.heap.size = C := ⟨_, rfl⟩
  have HC := Lib.hid hCe
  rw [hCe] at hsz b1 b2 ⊢
  have HEX := Lib.hid (show ∀ wx, Below C w wx → Ext w wx from fun wx h => by rw [← hCe] at h; exact h)
  have HEV := Lib.hid (show Below C w V from by rw [← hCe]; exact hEV)
  have hC0 : C + 2 ≤ V.heap.size := by omega
  have B1 := Lib.hid b1
  have B2 := Lib.hid b2
  clear hCe hEV hsz b1 b2
  go_wp2
  go_loopw [4, 5, 6] (fun iv _ _ wr => ∃ (i : Nat) (av : Value) (rs : List Value), i ≤ n ∧ iv = .int .i64 (i : Int) ∧ Hid (GBox wr (C + 1) av) ∧ Hid (GBox wr C (.slice none 0 0)) ∧ Hid (RS wr (C + 2) av rs ((adjM n (adjT t)).take i)) ∧ Hid (Below C w wr) ∧ C + 2 ≤ wr.heap.size)
    (fun iv _ _ _ => n - (intOf iv).toNat)
  case atStart => exact ⟨0, _, [], Nat.zero_le _, rfl, B2, B1, Lib.hid (RS.nil _ _), HEV, hC0⟩
  case round =>
    clear B1 B2 HEV hC0
    obtain ⟨i, av, rs, hi, rfl, hA, hR, hRS, hE, hCs⟩ := hrel
    by_cases hlt : i < n
    · have hii : (i : Int) < (n : Int) := by omega
      obtain ⟨D, hD⟩ : ∃ D, wr.heap.size = D := ⟨_, rfl⟩
      have HXD := Lib.hid (show ∀ wx, Below D wr wx → Ext wr wx from fun wx h => by rw [← hD] at h; exact h)
      have HD := Lib.hid hD
      have hD0 : D ≤ wr.heap.size := by omega
      have hCD : C + 2 ≤ D := by omega
      have HROW := Lib.hid (adjM_take (a := adjT t) hlt)
      clear hD
      go_wp2
      go_loopw [5, 6] (fun rv jv wx => ∃ j : Nat, j ≤ n ∧ jv = .int .i64 (j : Int) ∧ OZ wx D rv (rowZ (adjT t) i j) ∧ Below D wr wx ∧ D ≤ wx.heap.size)
        (fun _ jv _ => n - (intOf jv).toNat)
      case atStart => exact ⟨0, Nat.zero_le _, rfl, OZ.nil _ D, Below.refl D wr, hD0⟩
      case round =>
        rename World => wx
        obtain ⟨j, hj, rfl, hown, hbx, hDx⟩ := hrel
        by_cases hjl : j < n
        · have hji : (j : Int) < (n : Int) := by omega
          have hlp : (rowZ (adjT t) i j).length ≤ 1000000 := by have := rowZ_le (adjT t) i j; omega
          have HBX := Lib.hid hbx
          have HOWN := Lib.hid hown
          obtain ⟨b, off, rfl, hcell⟩ := ((HH.out.below (HEX.out _ hE.out)).below (HXD.out _ hbx)).rows (by omega)
          obtain ⟨g1, c1, k1, -, r1⟩ := hcell i hlt
          obtain ⟨g2, c2, k2, -, r2⟩ := hcell j hjl
          have q1 := r1.c (j := j) (by rw [HW.out i hlt]; exact hjl)
          have q2 := r2.c (j := i) (by rw [HW.out j hjl]; exact hlt)
          have HA : adjT t i j = (i != j && ((t.getD i []).getD j false || (t.getD j []).getD i false)) := rfl
          obtain ⟨x, hx⟩ : ∃ x, (t.getD i []).getD j false = x := ⟨_, rfl⟩
          obtain ⟨y, hy⟩ : ∃ y, (t.getD j []).getD i false = y := ⟨_, rfl⟩
          rw [hx, hy] at HA
          rw [hx] at q1
          rw [hy] at q2
          clear hx hy r1 r2 hcell hbx hown
          by_cases hij : i = j
          · have hne : ((i : Int) != (j : Int)) = false := by subst hij; simp
            have HNP := Lib.hid (rowZ_no (a := adjT t) (v := i) (j := j) (by rw [HA, show (i != j) = false by subst hij; simp]; rfl))
            have Rr := Lib.hid (And.intro HOWN.out HBX.out)
            rw [← HNP.out] at Rr
            clear HA q1 q2 k1 k2 HOWN HBX hij
            go_wp2
            go_roundw
            case rel => exact ⟨j + 1, by omega, by go_num, Rr.out.1, Rr.out.2, hDx⟩
            case measure => simp [intOf] <;> omega
          · have hne : ((i : Int) != (j : Int)) = true := by simpa using (show ¬ (i : Int) = (j : Int) by omega)
            rw [show (i != j) = true by simpa using hij, Bool.true_and] at HA
            cases x <;> cases y
            · have HNP := Lib.hid (rowZ_no (a := adjT t) (v := i) (j := j) (by rw [HA]; rfl))
              have Rr := Lib.hid (And.intro HOWN.out HBX.out)
              rw [← HNP.out] at Rr
              clear HA HOWN HBX hij
              go_wp2
              go_roundw
              case rel => exact ⟨j + 1, by omega, by go_num, Rr.out.1, Rr.out.2, hDx⟩
              case measure => simp [intOf] <;> omega
            all_goals
              have HNP := Lib.hid (rowZ_yes (a := adjT t) (v := i) (j := j) (by rw [HA]; rfl))
              clear HA hij
              go_wp2_with (at_builtin; refine wpList_append_z _ rfl (.tmp 40) (.tmp 42) rfl D _ (rowZ (adjT t) i j) j rfl rfl HOWN.out hDx hlp ?_)
              intro pv' w2 hp2' hB2
              have hsz := hB2.size
              rw [← HNP.out] at hp2'
              have Rr := Lib.hid (And.intro hp2' (HBX.out.trans hB2))
              clear hp2' hB2
              go_wp2
              go_roundw
              case rel => exact ⟨j + 1, by omega, by go_num, Rr.out.1, Rr.out.2, by omega⟩
              case measure => simp [intOf] <;> omega
        · obtain rfl : n = j := by omega
          obtain ⟨yo, yc, rfl⟩ := hown.slE
          have hrs1 := hRS.out.below (HXD.out _ hbx)
          have hC1 : C + 2 ≤ wx.heap.size := by omega
          have hA1 := hA.out.low hbx (by omega)
          have hR1 := hR.out.low hbx (by omega)
          have k0 := hA1.c
          have HA1 := Lib.hid hA1
          have HR1 := Lib.hid hR1
          have HB1 := Lib.hid (hE.out.trans (hbx.mono (by omega)))
          have hfar := hRS.out.lt
          rw [HD.out] at hfar
          have hl6 : rs.length ≤ 1000000 := by
            have := hRS.out.len
            rw [List.length_take, adjM_len] at this
            omega
          clear hbx hE hRS hA hR hA1 hR1
          go_wp2_with (at_builtin; refine wpList_append_rs _ rfl (.tmp 45) (.tmp 47) rfl (C + 2) D _ rs ((adjM n (adjT t)).take i) _ (rowZ (adjT t) i n) rfl rfl hrs1 hown hCD hfar hC1 hl6 ?_)
          intro pv' w2 hp2' hB2
          have hsz := hB2.size
          rw [← HROW.out] at hp2'
          have hA2 := HA1.out.low hB2 (by omega)
          have hR2 := HR1.out.low hB2 (by omega)
          have k1 := hA2.c
          have k2 := hA2.f 0
          obtain ⟨po, pc, rfl, -⟩ := hp2'.slE
          generalize hpn : (rs ++ [Value.slice yo (rowZ (adjT t) i n).length yc]).length = pn at *
          have RA := Lib.hid (hA2.set (.slice po pn pc))
          have RR := Lib.hid (hR2.other (k := C + 1) (j := 0) (x := .slice po pn pc) (by omega))
          have RS2 := Lib.hid (hp2'.low (g := C + 1) (j := 0) (x := .slice po pn pc) (by omega))
          have RE := Lib.hid ((HB1.out.trans (hB2.mono (by omega))).trans ((only_set1 w2 (C + 1) 0 (.slice po pn pc)).below (by omega)))
          clear hpn
          clear hp2' hrs1 hown hfar hB2 hA2 hR2 k0 HA1 HR1
          go_wp2
          go_roundw
          case rel => exact ⟨i + 1, _, _, by omega, by go_num, RA, RR, RS2, RE, by simp; omega⟩
          case measure => simp [intOf] <;> omega
    · obtain rfl : n = i := by omega
      have hnn : ¬ (n : Int) < (n : Int) := by omega
      have hR2 := hRS.out
      rw [List.take_of_length_le (by rw [adjM_len]; exact Nat.le_refl _)] at hR2
      obtain ⟨po, pc, rfl, -⟩ := hR2.slE
      generalize hpn : rs.length = pn at *
      have k0 := hA.out.c
      have k1 := hR.out.f 0
      have k2 := hR.out.c
      have RF := Lib.hid ((hR2.low (g := C) (j := 0) (x := .slice po pn pc) (by omega)).mono (C := C) (by omega))
      have RE := Lib.hid (hE.out.trans ((only_set1 wr C 0 (.slice po pn pc)).below (Nat.le_refl _)))
      have z0 := (hR.out.set (.slice po pn pc)).c
      clear hR2 hRS hA hR hE hpn
      go_wp2
      refine bodyPost_ret (v := .agg #[.slice po pn pc]) (by simp [results, Try.results38, go_sem, z0]) rfl ⟨_, rfl, ⟨_, by rw [HC.out]; exact RF.out⟩, HEX.out _ RE.out⟩
end Go.Proofs.Ytapcecjbmcoliaa
