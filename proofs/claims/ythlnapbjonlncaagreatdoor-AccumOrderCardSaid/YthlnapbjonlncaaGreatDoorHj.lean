/- What sparsekit.Shuffle does: a permutation of the first numbers. -/
import Derived.Test.YthlnapbjonlncaaGreatDoorHi
import Derived.Test.YthlnapbjonlncaaGreatDoorGg
import Derived.Deep.RegionLaw
import Derived.Deep.Onto
namespace Go.Proofs.YthlnapbjonlncaaGreatDoor
open Go Go.RowKit

theorem Tryz.infoInt : (Tryz.prog.info? 3).map (fun i => (i.zero, i.size, i.bytes)) = some (some (.int .i64 0), 1, 8) := by kernel_rfl

/-- the slice reads as these ints -/
structure Ns (w : World) (ao : Option Addr) (n cap : Nat) (l : List Int) : Prop where
  len : l.length = n
  cap : n ≤ cap
  cells : 0 < n → ∃ b off, ao = some ⟨b, off, none⟩ ∧ ∀ j, j < n → w.cell? ⟨b, off + j, none⟩ = some (.int .i64 (l.getD j 0))
theorem Ns.below {w w' : World} {ao : Option Addr} {n cap : Nat} {l : List Int} (h : Ns w ao n cap l) (hb : Ext w w') : Ns w' ao n cap l :=
  ⟨h.len, h.cap, fun h0 => by
    obtain ⟨b, off, e, hc⟩ := h.cells h0
    refine ⟨b, off, e, fun j hj => ?_⟩
    have := hc j hj
    rw [hb.cell (p := ⟨b, off + j, none⟩) (lt_of_cell this)]
    exact this⟩

/-- the call owns the slice v with these indices -/
def OI (w : World) (B : Nat) (v : Value) (L : List Nat) : Prop := w.ownsRow B 3 1 v L.length (L.map fun (f : Nat) => Value.int .i64 (f : Int))
theorem OI.nil (w : World) (B : Nat) : OI w B (.slice none 0 0) [] := World.ownsRow_nil w B _ _
theorem OI.below {w w' : World} {B : Nat} {v : Value} {L : List Nat} (h : OI w B v L) (hb : Ext w w') : OI w' B v L := by
  obtain ⟨h1, h2⟩ := h
  refine ⟨h1, ?_⟩
  rcases h2 with h2 | ⟨g, cap, cur, hv, hbb, hg, r⟩
  · exact .inl h2
  · exact .inr ⟨g, cap, cur, hv, hbb, by rw [hb.block g (Array.getElem?_eq_some_iff.1 hg).1]; exact hg, r⟩
theorem OI.kept {w w' : World} {B C : Nat} {v : Value} {L : List Nat} (h : OI w B v L) (hb : Below C w w') (hlt : ∀ k, v.ownBlock = some k → k < C) : OI w' B v L := by
  obtain ⟨h1, h2⟩ := h
  refine ⟨h1, ?_⟩
  rcases h2 with h2 | ⟨g, cap, cur, hv, hbb, hg, r⟩
  · exact .inl h2
  · exact .inr ⟨g, cap, cur, hv, hbb, by rw [hb.block g (hlt g (by rw [hv]; rfl))]; exact hg, r⟩
theorem OI.only {w w' : World} {B g' : Nat} {v : Value} {L : List Nat} (h : OI w B v L) (ho : w.grownBy w' (some g')) (hne : v.ownBlock ≠ some g') : OI w' B v L := World.ownsRow.kept h ho (.inr hne)
/-- written out -/
theorem OI.form {w : World} {B : Nat} {v : Value} {L : List Nat} (h : OI w B v L) (h0 : L ≠ []) : ∃ g cap, v = .slice (some ⟨g, 0, none⟩) L.length cap ∧ B ≤ g ∧ g < w.heap.size ∧ L.length ≤ cap ∧ (∀ j, j < L.length → w.cell? ⟨g, j, none⟩ = some (.int .i64 ((L.getD j 0 : Nat) : Int))) := by
  obtain ⟨h1, h2⟩ := h
  rcases h2 with ⟨rfl, hl⟩ | ⟨g, cap, cur, rfl, hb, hg, hn, hm, hs, ht⟩
  · exact absurd (List.eq_nil_of_length_eq_zero hl) h0
  · refine ⟨g, cap, rfl, hb, (Array.getElem?_eq_some_iff.1 hg).1, hn, fun j hj => ?_⟩
    rw [cell_of_row w g j _ _ _ hg]
    have : (cur.toList.take (L.length * 1))[j]? = (L.map fun (f : Nat) => Value.int .i64 (f : Int))[j]? := by rw [ht]
    rw [List.getElem?_take, if_pos (by omega)] at this
    simp only [Array.getElem?_toList] at this
    rw [this]
    simp [List.getD, hj]

theorem wpList_append_int (w0 : World) {ops : Array Oper} {rest : List Oper} {o : Oper} {a : Act} {Q : Exit → Act → World → Prop} (hgd : o.guard = none) (s x : Operand)
    (ho : o.op = .call { callee := .builtin .append, args := #[s, x], argTypes := #[39, 39] })
    (B : Nat) (v : Value) (L : List Nat) (y : Nat) (hs : a.eval s = v) (hx : a.eval x = .slice (some ⟨w0.heap.size, 0, none⟩) 1 1) (hown : OI w0 B v L) (hB : B ≤ w0.heap.size) (hL : L.length ≤ 1000000)
    (h : ∀ v' w', OI w' B v' (L ++ [y]) → Below B w0 w' → wpList Tryz.prog ops Q rest (a.put o.dst v') w') :
    wpList Tryz.prog ops Q (o :: rest) a (w0.alloc (.cells #[.int .i64 (y : Int)] 3)) := by
  obtain ⟨i0, hi, hz0, hz1, hz2⟩ := info_parts Tryz.infoInt
  refine wpList_append_own _ hgd s x 39 ho B 3 i0 (.int .i64 0) 1 8 Tryz.underlying39 hi hz0 hz1 hz2 rfl (by decide) v L.length _ hs (World.ownsRow.alloc hown _) ⟨w0.heap.size, 0, none⟩ 1 1 [.int .i64 (y : Int)] hx rfl ?_ ?_ (by unfold maxLen; omega) (by omega) (by simp; omega) ?_
  · intro j u hj
    have hn : (w0.alloc (.cells #[.int .i64 (y : Int)] 3)).heap[w0.heap.size]? = some (.cells #[.int .i64 (y : Int)] 3 (0, 0)) := heap_alloc_new w0 _
    rcases j with _ | j
    · rw [Addr.add_lit, Nat.zero_add, cell_of_row _ w0.heap.size 0 _ _ _ hn]; exact hj
    · simp at hj
  · intro u hu; rw [List.mem_singleton] at hu; subst hu; rfl
  · intro v' w' r1 r2 _
    refine h v' w' ?_ ?_
    · unfold OI
      rw [List.length_append, List.map_append]
      exact r1
    · refine ((Below.refl B w0).alloc hB _).grown r2 (by simp; omega) ?_
      intro k hk
      exact (World.ownsRow.lt hown k hk).1

/-- 'append(x[:i], x[i+1:]...)' as one step of a region that draws its order: element i is left out -/
theorem step_append_cut {ops : Array Oper} {o : Oper} {a : Act} {w : World} {K : Act → World → Prop} {Q : Exit → Act → World → Prop} {E : Prop} (hgd : o.guard = none) (s x : Operand)
    (ho : o.op = .call { callee := .builtin .append, args := #[s, x], argTypes := #[39, 39] })
    (B g cap i m c : Nat) (ad : Addr) (L : List Nat) (hown : OI w B (.slice (some ⟨g, 0, none⟩) L.length cap) L) (hi : i < L.length) (hs : a.eval s = .slice (some ⟨g, 0, none⟩) i cap) (hx : a.eval x = .slice (some ad) m c) (hm : m = L.length - (i + 1)) (had : 0 < m → ad = ⟨g, i + 1, none⟩)
    (h : ∀ w', OI w' B (.slice (some ⟨g, 0, none⟩) (L.length - 1) cap) (L.eraseIdx i) → w.grownBy w' (some g) → K (a.put o.dst (.slice (some ⟨g, 0, none⟩) (L.length - 1) cap)) w') :
    if Region.wanted o (yielded ops a.tmps) = true then Oper.wp Tryz.prog o a w K Q else E := by
  have hw : Region.wanted o (yielded ops a.tmps) = true := by simp [Region.wanted, hgd]
  rw [if_pos hw]
  obtain ⟨i0, hi0, hz0, hz1, hz2⟩ := info_parts Tryz.infoInt
  obtain ⟨h1, h2⟩ := hown
  rcases h2 with ⟨h2, _⟩ | ⟨g', cap', cur, hv, hb, hg, hn, hmx, hsz, ht⟩
  · simp at h2
  · simp only [Value.slice.injEq, Option.some.injEq, Addr.mk.injEq, and_true, true_and] at hv
    obtain ⟨rfl, rfl⟩ := hv
    have hcut : w.ownsRow B 3 1 (.slice (some ⟨g, 0, none⟩) i cap) i ((L.take i).map fun (f : Nat) => Value.int .i64 (f : Int)) := by
      refine ⟨by simp; omega, .inr ⟨g, cap, cur, rfl, hb, hg, by omega, hmx, hsz, ?_⟩⟩
      have := congrArg (List.take i) ht
      rw [List.take_take, Nat.min_eq_left (by omega), ← List.map_take] at this
      rw [Nat.mul_one]; exact this
    obtain ⟨w', hrun, r1, r2⟩ := run_append_fits (P := Tryz.prog) w B 39 o.type 3 i0 1 Tryz.underlying39 hi0 hz1 g i cap _ hcut ad m c ((L.drop (i + 1)).map fun (f : Nat) => Value.int .i64 (f : Int)) (by simp; omega)
      (by
        intro j u hj
        have hjl : j < m := by
          have := (List.getElem?_eq_some_iff.1 hj).1
          simp at this; omega
        rw [had (by omega), Addr.add_lit, cell_of_row w g _ _ _ _ hg]
        have : (cur.toList.take (L.length * 1))[i + 1 + j]? = (L.map fun (f : Nat) => Value.int .i64 (f : Int))[i + 1 + j]? := by rw [ht]
        rw [List.getElem?_take, if_pos (by omega)] at this
        simp only [Array.getElem?_toList] at this
        rw [this, ← hj]
        simp)
      (by
        intro u hu
        obtain ⟨f, _, rfl⟩ := List.mem_map.1 hu
        rfl)
      (by omega)
    have e1 : i + m = L.length - 1 := by omega
    rw [e1] at hrun r1
    unfold Oper.wp
    simp [execOp, ho, resolve, invoke, builtin, hs, hx, hrun, Result.andThen]
    refine h w' ?_ r2
    unfold OI
    have e2 : (L.eraseIdx i).length = L.length - 1 := by rw [List.length_eraseIdx, if_pos hi]
    rw [e2, List.eraseIdx_eq_take_drop_succ, List.map_append]
    exact r1
end Go.Proofs.YthlnapbjonlncaaGreatDoor

/- What sparsekit.Shuffle does: a permutation of the first numbers. -/
namespace Go.Proofs.YthlnapbjonlncaaGreatDoor
open Go Go.RowKit

theorem cons_erase_perm {L : List Nat} {i : Nat} (h : i < L.length) : (L[i] :: L.eraseIdx i).Perm L := by
  induction L generalizing i with
  | nil => simp at h
  | cons x l ih =>
    cases i with
    | zero => simp
    | succ i =>
      simp only [List.getElem_cons_succ, List.eraseIdx_cons_succ]
      exact (List.Perm.swap x _ _).trans ((ih (by simpa using h)).cons x)

set_option maxRecDepth 100000 in
set_option maxHeartbeats 8000000 in
theorem shuffle_any (ao : Option Addr) (n0 c0 n : Nat) (l : List Int) (w : World) (h : Ns w ao n0 c0 l) (hn : n ≤ 1000000) (B : Nat) (hBw : w.heap.size = B) :
    Calls Tryz.prog 20 #[.slice ao n0 c0, .int .i64 (n : Int)] w fun e w' => ∃ v O, e = .returned v ∧ OI w' B v O ∧ O.length = n ∧ O.Perm (List.range n) ∧ Ext w w' := by
  have HBW := Lib.hid hBw
  have hB0 : B ≤ w.heap.size := by omega
  have HEX : ∀ wx, Below B w wx → Ext w wx := fun wx h => by rw [← hBw] at h; exact h
  have HEX := Lib.hid HEX
  have HH := Lib.hid h
  clear hBw h
  go_enter Tryz.func20, Tryz.ntmps20
  go_wp2
  go_loopw [5, 6] (fun v ix wr => ∃ j : Nat, j ≤ n ∧ ix = .int .i64 j ∧ OI wr B v (List.range j) ∧ Below B w wr ∧ B ≤ wr.heap.size) (fun _ ix _ => n - (intOf ix).toNat)
  case atStart => exact ⟨0, Nat.zero_le _, rfl, OI.nil w B, Below.refl B w, hB0⟩
  case round =>
    obtain ⟨j, hj, rfl, hown, hE, hBs⟩ := hrel
    by_cases hlt : j < n
    · have hlen : (List.range j).length ≤ 1000000 := by rw [List.length_range]; omega
      go_wp2_with (at_builtin; refine wpList_append_int _ rfl (.tmp 15) (.tmp 17) rfl B _ (List.range j) j rfl rfl hown hBs hlen ?_)
      intro v' w2 hown2 hB2
      have hE2 := hE.trans hB2
      have hsz := hB2.size
      rw [← List.range_succ] at hown2
      go_wp2
      go_roundw
      case rel => exact ⟨j + 1, by omega, by go_num, hown2, hE2, by omega⟩
      case measure => simp [intOf] <;> omega
    · obtain rfl : j = n := by omega
      clear hlt
      obtain ⟨C, hCe⟩ : ∃ C, wr.heap.size = C := ⟨_, rfl⟩
      have hBC : B ≤ C := by omega
      have hCs0 : C ≤ wr.heap.size := by omega
      have hlast := fun k hk => (World.ownsRow.lt hown k hk).2
      rw [hCe] at hlast
      go_wp2
      go_loopw [5, 7, 8, 9] (fun lv ov kx _ wr => ∃ (k : Nat) (Lk Ok : List Nat), k ≤ j ∧ kx = .int .i64 k ∧ OI wr B lv Lk ∧ OI wr C ov Ok ∧ Lk.length = j - k ∧ Ok.length = k ∧ (Ok ++ Lk).Perm (List.range j) ∧ Below B w wr ∧ (∀ g, lv.ownBlock = some g → g < C) ∧ C ≤ wr.heap.size)
        (fun _ _ kx _ _ => j - (intOf kx).toNat)
      case atStart => exact ⟨0, List.range j, [], Nat.zero_le _, rfl, hown, OI.nil _ C, by simp, rfl, by simp, hE, hlast, hCs0⟩
      case round =>
        obtain ⟨k, Lk, Ok, hk, rfl, hleft, hout, hLl, hOl0, hperm, hE1, hlb, hCs⟩ := hrel
        by_cases hlt : k < j
        · have hOl : Ok.length ≤ 1000000 := by omega
          obtain ⟨g, cap, rfl, hgB, hgs, hcap, hcell⟩ := hleft.form (by intro h0; rw [h0] at hLl; simp at hLl; omega)
          have hgC := hlb g rfl
          obtain ⟨ln, hln⟩ : ∃ ln, Lk.length = ln := ⟨_, rfl⟩
          rw [hln] at hLl hcap hcell hleft ⊢
          have hleft1 := hleft
          have hout1 := hout
          clear hleft hout hlb
          have hl0 : 0 < ln := by omega
          have hl1 : ln ≤ 1000000 := by omega
          have HLL := Lib.hid hLl
          have HLN := Lib.hid hln
          have hlk : ln + k = j := by omega
          have HLK := Lib.hid hlk
          have HOL := Lib.hid hOl0
          have hkj : k + 1 ≤ j := by omega
          clear hLl hlk hln hOl0
          by_cases hkn : k < n0
          · have hh := HH.out.below (HEX.out _ hE1)
            obtain ⟨b', off, rfl, hc⟩ := hh.cells (by omega)
            have hck := hc k hkn
            obtain ⟨z, hz⟩ : ∃ z, l.getD k 0 = z := ⟨_, rfl⟩
            rw [hz] at hck
            clear hc hh hz
            go_wp2_with fail
            refine (place_any z ln _ (by omega) (by omega)).mono ?_
            rintro e w1 ⟨i, hi, rfl, rfl⟩
            have HIL := Lib.hid (show i < Lk.length by rw [HLN.out]; exact hi)
            obtain ⟨y, hy⟩ : ∃ y, Lk[i]'HIL.out = y := ⟨_, rfl⟩
            have hcy := hcell i hi
            rw [show Lk.getD i 0 = y by simp [List.getD, HIL.out, hy]] at hcy
            have HY := Lib.hid hy
            clear hy hck hcell
            go_wp2_with (at_builtin; refine wpList_append_int _ rfl (.tmp 35) (.tmp 40) rfl C _ Ok y rfl rfl hout1 hCs hOl ?_)
            intro ov' w2 hout2 hB2
            have hleft2 := hleft1.kept (C := C) hB2 (by intro k hk; cases hk; exact hgC)
            have hsz2 := hB2.size
            have hE2 := hE1.trans (hB2.mono hBC)
            have hp2 := hperm
            have hne2 : ov'.ownBlock ≠ some g := fun hh => by have := (World.ownsRow.lt hout2 g hh).1; omega
            have HLEFT := Lib.hid hleft2
            have HOUT := Lib.hid hout2
            have HP := Lib.hid hperm
            clear hleft1 hleft2 hout1 hout2 hperm hp2
            have hic : i ≤ cap := by omega
            have hici : (i : Int) ≤ (cap : Int) := by omega
            have hwr : IntKind.i64.wrap ((i : Int) + 1) = ((i + 1 : Nat) : Int) := by rw [IntKind.wrap_i64]; omega
            have hle1 : ((i + 1 : Nat) : Int) ≤ (ln : Int) := by omega
            have hle2 : (i : Int) + 1 ≤ (ln : Int) := by omega
            have hge2 : (0 : Int) ≤ (i : Int) + 1 := by omega
            have hle3 : (i : Int) ≤ (i : Int) + 1 := by omega
            by_cases hci : cap = i + 1
            · subst hci
              go_wp2
              go_region_law (refine step_append_cut rfl (.tmp 44) (.tmp 48) rfl B g (i + 1) i 0 0 ⟨g, 0, none⟩ Lk (by rw [HLN.out]; exact HLEFT.out) (by rw [HLN.out]; exact hi) (by simp [Act.eval, Act.put]) (by simp [Act.eval, Act.put]) (by rw [HLN.out]; omega) (fun h => absurd h (by omega)) ?_; intro w3 hleft3 hg3)

              all_goals
                go_wp2
                go_roundw
              all_goals
                  first
                    | (simp [intOf] <;> omega)
                    | (refine ⟨k + 1, Lk.eraseIdx i, Ok ++ [y], by omega, by go_num, ?_, (show OI w2.drew C _ _ from HOUT.out).only hg3 hne2, by rw [List.length_eraseIdx, if_pos HIL.out, HLN.out]; have := HLK.out; omega, by simp [HOL.out], ?_, ?_, ?_, ?_⟩
                       · exact hleft3
                       · refine List.Perm.trans ?_ HP.out
                         rw [List.append_assoc]
                         refine List.Perm.append_left Ok ?_
                         rw [List.singleton_append, ← HY.out]
                         exact cons_erase_perm HIL.out
                       · exact (show Below B w w2.drew from hE2.drew).grown hg3 (show B ≤ w2.heap.size by omega) (fun k hk => by obtain rfl := Option.some.inj hk; exact hgB)
                       · intro k hk; cases hk; exact hgC
                       · have h9 : w2.heap.size ≤ w3.heap.size := hg3.size; omega)
            · go_wp2
              go_region_law (refine step_append_cut rfl (.tmp 44) (.tmp 48) rfl B g cap i (ln - (i + 1)) (cap - (i + 1)) ⟨g, i + 1, none⟩ Lk (by rw [HLN.out]; exact HLEFT.out) (by rw [HLN.out]; exact hi) (by simp [Act.eval, Act.put]) (by simp [Act.eval, Act.put]) (by rw [HLN.out]) (fun _ => rfl) ?_; intro w3 hleft3 hg3)

              all_goals
                go_wp2
                go_roundw
              all_goals
                  first
                    | (simp [intOf] <;> omega)
                    | (refine ⟨k + 1, Lk.eraseIdx i, Ok ++ [y], by omega, by go_num, ?_, (show OI w2.drew C _ _ from HOUT.out).only hg3 hne2, by rw [List.length_eraseIdx, if_pos HIL.out, HLN.out]; have := HLK.out; omega, by simp [HOL.out], ?_, ?_, ?_, ?_⟩
                       · exact hleft3
                       · refine List.Perm.trans ?_ HP.out
                         rw [List.append_assoc]
                         refine List.Perm.append_left Ok ?_
                         rw [List.singleton_append, ← HY.out]
                         exact cons_erase_perm HIL.out
                       · exact (show Below B w w2.drew from hE2.drew).grown hg3 (show B ≤ w2.heap.size by omega) (fun k hk => by obtain rfl := Option.some.inj hk; exact hgB)
                       · intro k hk; cases hk; exact hgC
                       · have h9 : w2.heap.size ≤ w3.heap.size := hg3.size; omega)
          · have hi : 0 < ln := hl0
            have HIL := Lib.hid (show 0 < Lk.length by rw [HLN.out]; exact hi)
            obtain ⟨y, hy⟩ : ∃ y, Lk[0]'HIL.out = y := ⟨_, rfl⟩
            have hcy := hcell 0 hi
            rw [show Lk.getD 0 0 = y by simp [List.getD, HIL.out, hy]] at hcy
            have HY := Lib.hid hy
            clear hy hcell
            go_wp2_with (at_builtin; refine wpList_append_int _ rfl (.tmp 35) (.tmp 40) rfl C _ Ok y rfl rfl hout1 hCs hOl ?_)
            intro ov' w2 hout2 hB2
            have hleft2 := hleft1.kept (C := C) hB2 (by intro k hk; cases hk; exact hgC)
            have hsz2 := hB2.size
            have hE2 := hE1.trans (hB2.mono hBC)
            have hp2 := hperm
            have hne2 : ov'.ownBlock ≠ some g := fun hh => by have := (World.ownsRow.lt hout2 g hh).1; omega
            have HLEFT := Lib.hid hleft2
            have HOUT := Lib.hid hout2
            have HP := Lib.hid hperm
            clear hleft1 hleft2 hout1 hout2 hperm hp2
            have hic : 0 ≤ cap := by omega
            have hici : (0 : Int) ≤ (cap : Int) := by omega
            have hwr : IntKind.i64.wrap 1 = 1 := by decide
            have hle1 : (1 : Int) ≤ (ln : Int) := by omega
            have hle2 : (1 : Int) ≤ (ln : Int) := by omega
            have hge2 : (0 : Int) ≤ (1 : Int) := by omega
            have hle3 : (0 : Int) ≤ (1 : Int) := by omega
            by_cases hci : cap = 1
            · subst hci
              go_wp2
              go_region_law (refine step_append_cut rfl (.tmp 44) (.tmp 48) rfl B g 1 0 0 0 ⟨g, 0, none⟩ Lk (by rw [HLN.out]; exact HLEFT.out) (by rw [HLN.out]; exact hi) (by simp [Act.eval, Act.put]) (by simp [Act.eval, Act.put]) (by rw [HLN.out]; omega) (fun h => absurd h (by omega)) ?_; intro w3 hleft3 hg3)

              all_goals
                go_wp2
                go_roundw
              all_goals
                  first
                    | (simp [intOf] <;> omega)
                    | (refine ⟨k + 1, Lk.eraseIdx 0, Ok ++ [y], by omega, by go_num, ?_, (show OI w2.drew C _ _ from HOUT.out).only hg3 hne2, by rw [List.length_eraseIdx, if_pos HIL.out, HLN.out]; have := HLK.out; omega, by simp [HOL.out], ?_, ?_, ?_, ?_⟩
                       · exact hleft3
                       · refine List.Perm.trans ?_ HP.out
                         rw [List.append_assoc]
                         refine List.Perm.append_left Ok ?_
                         rw [List.singleton_append, ← HY.out]
                         exact cons_erase_perm HIL.out
                       · exact (show Below B w w2.drew from hE2.drew).grown hg3 (show B ≤ w2.heap.size by omega) (fun k hk => by obtain rfl := Option.some.inj hk; exact hgB)
                       · intro k hk; cases hk; exact hgC
                       · have h9 : w2.heap.size ≤ w3.heap.size := hg3.size; omega)
            · go_wp2
              go_region_law (refine step_append_cut rfl (.tmp 44) (.tmp 48) rfl B g cap 0 (ln - (1)) (cap - (1)) ⟨g, 1, none⟩ Lk (by rw [HLN.out]; exact HLEFT.out) (by rw [HLN.out]; exact hi) (by simp [Act.eval, Act.put]) (by simp [Act.eval, Act.put]) (by rw [HLN.out]) (fun _ => rfl) ?_; intro w3 hleft3 hg3)

              all_goals
                go_wp2
                go_roundw
              all_goals
                  first
                    | (simp [intOf] <;> omega)
                    | (refine ⟨k + 1, Lk.eraseIdx 0, Ok ++ [y], by omega, by go_num, ?_, (show OI w2.drew C _ _ from HOUT.out).only hg3 hne2, by rw [List.length_eraseIdx, if_pos HIL.out, HLN.out]; have := HLK.out; omega, by simp [HOL.out], ?_, ?_, ?_, ?_⟩
                       · exact hleft3
                       · refine List.Perm.trans ?_ HP.out
                         rw [List.append_assoc]
                         refine List.Perm.append_left Ok ?_
                         rw [List.singleton_append, ← HY.out]
                         exact cons_erase_perm HIL.out
                       · exact (show Below B w w2.drew from hE2.drew).grown hg3 (show B ≤ w2.heap.size by omega) (fun k hk => by obtain rfl := Option.some.inj hk; exact hgB)
                       · intro k hk; cases hk; exact hgC
                       · have h9 : w2.heap.size ≤ w3.heap.size := hg3.size; omega)
        · obtain rfl : k = j := by omega
          obtain rfl : Lk = [] := List.eq_nil_of_length_eq_zero (by omega)
          rw [List.append_nil] at hperm
          have HOUT := Lib.hid (show OI wr B _ Ok from World.ownsRow.mono hout hBC)
          go_wp2
          go_ret
          exact ⟨_, Ok, rfl, HOUT.out, hOl0, hperm, HEX.out _ hE1⟩
end Go.Proofs.YthlnapbjonlncaaGreatDoor

/- Sums do not depend on the order, as plain facts; two lists of floats that grow side by side. -/
namespace Go.Proofs.YthlnapbjonlncaaGreatDoor
open Go Go.RowKit

def sI : List Int → Int
  | [] => 0
  | x :: l => x + sI l
theorem sI_perm {l m : List Int} (h : l.Perm m) : sI l = sI m := by
  induction h with
  | nil => rfl
  | cons x _ ih => simp only [sI, ih]
  | swap x y l => simp only [sI]; omega
  | trans _ _ ih1 ih2 => rw [ih1, ih2]
theorem dotF_sI (O : List Nat) (f g : Nat → Nat) : dotF (O.map f) (O.map g) = sI (O.map fun o => fzs (f o) * fzs (g o)) := by
  induction O with
  | nil => rfl
  | cons o l ih => simp only [List.map_cons, dotF, sI, ih]
theorem sumF_sI (O : List Nat) (f : Nat → Nat) : sumF (O.map f) = sI (O.map fun o => fzs (f o)) := by
  induction O with
  | nil => rfl
  | cons o l ih => simp only [List.map_cons, sumF, sI, ih]
theorem range_map (l : List Nat) {n : Nat} (h : l.length = n) : (List.range n).map (fun i => l.getD i 0) = l := by
  apply List.ext_getElem
  · simp [h]
  · intro i h1 h2
    simp [List.getD, h2]
theorem dotF_perm {x y O : List Nat} {n : Nat} (hx : x.length = n) (hy : y.length = n) (h : O.Perm (List.range n)) : dotF (O.map fun i => x.getD i 0) (O.map fun i => y.getD i 0) = dotF x y := by
  conv => rhs; rw [← range_map x hx, ← range_map y hy]
  rw [dotF_sI, dotF_sI]
  exact sI_perm (h.map _)
theorem sumF_perm {x O : List Nat} {n : Nat} (hx : x.length = n) (h : O.Perm (List.range n)) : sumF (O.map fun i => x.getD i 0) = sumF x := by
  conv => rhs; rw [← range_map x hx]
  rw [sumF_sI, sumF_sI]
  exact sI_perm (h.map _)
theorem dotF_split (x y : List Nat) (k : Nat) : dotF (x.take k) (y.take k) + dotF (x.drop k) (y.drop k) = dotF x y := by
  induction k generalizing x y with
  | zero => simp [dotF]
  | succ k ih =>
    cases x with
    | nil => simp [dotF]
    | cons a x =>
      cases y with
      | nil => simp [dotF]
      | cons b y =>
        have := ih x y
        simp only [List.take_succ_cons, List.drop_succ_cons, dotF]
        omega

/-- what the statement compares -/
structure OrdIs (x y p q : List Nat) (k : Nat) (d d3 d4 s : Dy) : Prop where
  e1 : dtotal (prods x y) = d
  e2 : dtotal (prods p q) = d
  e3 : dtotal (prods (x.take k) (y.take k)) = d3
  e4 : dtotal (prods (x.drop k) (y.drop k)) = d4
  n1 : d ≠ none
  n3 : d3 ≠ none
  n4 : d4 ≠ none
  sum : dadd d3 d4 = d
  s1 : dtotal (x.map fdy) = s
  s2 : dtotal (p.map fdy) = s
theorem ord_is {x y O : List Nat} {n k : Nat} (hx : x.length = n) (hy : y.length = n) (hn : n ≤ 1000000) (h : O.Perm (List.range n)) (fx : ∀ f ∈ x, finB f = true) (fy : ∀ f ∈ y, finB f = true) :
    ∃ d d3 d4 s, OrdIs x y (O.map fun i => x.getD i 0) (O.map fun i => y.getD i 0) k d d3 d4 s := by
  have hO : ∀ i ∈ O, i < n := fun i hi => by have := h.mem_iff.1 hi; simpa using this
  have hOl : O.length = n := by have := h.length_eq; simpa using this
  have mem : ∀ (l : List Nat), l.length = n → (∀ f ∈ l, finB f = true) → ∀ f ∈ O.map (fun i => l.getD i 0), finB f = true := by
    intro l hl hf f hm
    obtain ⟨i, hi, rfl⟩ := List.mem_map.1 hm
    have := hO i hi
    simp only [List.getD, List.getElem?_eq_getElem (show i < l.length by omega), Option.getD_some]
    exact hf _ (List.getElem_mem _)
  have a1 := dotF_dy fx fy (by omega)
  have a2 := dotF_dy (mem x hx fx) (mem y hy fy) (by rw [List.length_map]; omega)
  have a3 := dotF_dy (l := x.take k) (m := y.take k) (fun f hf => fx f (List.mem_of_mem_take hf)) (fun f hf => fy f (List.mem_of_mem_take hf)) (by rw [List.length_take]; omega)
  have a4 := dotF_dy (l := x.drop k) (m := y.drop k) (fun f hf => fx f (List.mem_of_mem_drop hf)) (fun f hf => fy f (List.mem_of_mem_drop hf)) (by rw [List.length_drop]; omega)
  have b1 := sumF_dy fx (by omega)
  have b2 := sumF_dy (mem x hx fx) (by rw [List.length_map]; omega)
  rw [dotF_perm hx hy h] at a2
  rw [sumF_perm hx h] at b2
  have hb := dotF_lt fx fy
  have hsum := a3.add a4 (by omega) (B := 20 + ((52 + low46) + (52 + low46))) (by
    rw [dotF_split]
    have h2 : x.length * 2 ^ ((52 + low46) + (52 + low46)) ≤ 1000000 * 2 ^ ((52 + low46) + (52 + low46)) := Nat.mul_le_mul_right _ (by omega)
    have h3 : 1000000 * 2 ^ ((52 + low46) + (52 + low46)) < 2 ^ 20 * 2 ^ ((52 + low46) + (52 + low46)) := Nat.mul_lt_mul_of_pos_right (by omega) (Nat.pow_pos (by omega))
    rw [← Nat.pow_add] at h3
    omega) (by rw [low46_le]; omega)
  rw [dotF_split] at hsum
  have some_of : ∀ {d : Dy} {S : Nat} {N : Int}, Is d S N → d ≠ none := fun h => by obtain ⟨m, e, h1, _⟩ := h; rw [h1]; simp
  exact ⟨_, _, _, _, rfl, a2.unique a1, rfl, rfl, some_of a1, some_of a3, some_of a4, hsum.unique a1, rfl, b2.unique b1⟩

theorem OF.of_block {w w' : World} {B : Nat} {v : Value} {L : List Nat} (h : OF w B v L) (hb : ∀ k, v.ownBlock = some k → w'.heap[k]? = w.heap[k]?) : OF w' B v L := by
  obtain ⟨h1, h2⟩ := h
  refine ⟨h1, ?_⟩
  rcases h2 with h2 | ⟨g, cap, cur, hv, hbb, hg, r⟩
  · exact .inl h2
  · exact .inr ⟨g, cap, cur, hv, hbb, by rw [hb g (by rw [hv]; rfl)]; exact hg, r⟩
theorem OF.lt {w : World} {B : Nat} {v : Value} {L : List Nat} (h : OF w B v L) (k : Nat) (hk : v.ownBlock = some k) : B ≤ k ∧ k < w.heap.size := World.ownsRow.lt h k hk

/-- an append leaves the other blocks alone, and its row is the old one or new -/
theorem wpList_append_float_x (w0 : World) {ops : Array Oper} {rest : List Oper} {o : Oper} {a : Act} {Q : Exit → Act → World → Prop} (hgd : o.guard = none) (s x : Operand)
    (ho : o.op = .call { callee := .builtin .append, args := #[s, x], argTypes := #[38, 38] })
    (B : Nat) (v : Value) (L : List Nat) (y : Nat) (hs : a.eval s = v) (hx : a.eval x = .slice (some ⟨w0.heap.size, 0, none⟩) 1 1) (hown : OF w0 B v L) (hB : B ≤ w0.heap.size) (hL : L.length ≤ 1000000)
    (h : ∀ v' w', OF w' B v' (L ++ [y]) → Below B w0 w' → (∀ k, v'.ownBlock = some k → v.ownBlock = some k ∨ w0.heap.size ≤ k) → (∀ k, k < w0.heap.size → v.ownBlock ≠ some k → w'.heap[k]? = w0.heap[k]?) → wpList Tryz.prog ops Q rest (a.put o.dst v') w') :
    wpList Tryz.prog ops Q (o :: rest) a (w0.alloc (.cells #[.int .u64 (y : Int)] 23)) := by
  obtain ⟨i0, hi, hz0, hz1, hz2⟩ := info_parts Tryz.infoFloat
  have hnew : ∀ (j : Nat) (u : Value), [Value.int .u64 (y : Int)][j]? = some u → (w0.alloc (.cells #[.int .u64 (y : Int)] 23)).cell? ((⟨w0.heap.size, 0, none⟩ : Addr).add j) = some u := by
    intro j u hj
    have hn : (w0.alloc (.cells #[.int .u64 (y : Int)] 23)).heap[w0.heap.size]? = some (.cells #[.int .u64 (y : Int)] 23 (0, 0)) := heap_alloc_new w0 _
    rcases j with _ | j
    · rw [Addr.add_lit, Nat.zero_add, cell_of_row _ w0.heap.size 0 _ _ _ hn]; exact hj
    · simp at hj
  have h1c : ∀ u ∈ [Value.int .u64 (y : Int)], u.oneCell' = true := by intro u hu; rw [List.mem_singleton] at hu; subst hu; rfl
  have hown1 : (w0.alloc (.cells #[.int .u64 (y : Int)] 23)).ownsRow B 23 1 v L.length (L.map fun (f : Nat) => Value.int .u64 (f : Int)) := World.ownsRow.alloc hown _
  have hsz : (w0.alloc (.cells #[.int .u64 (y : Int)] 23)).heap.size = w0.heap.size + 1 := by simp
  have key : ∃ v' w', (Builtin.append_ #[38, 38] o.type #[v, .slice (some ⟨w0.heap.size, 0, none⟩) 1 1]).run Tryz.prog (w0.alloc (.cells #[.int .u64 (y : Int)] 23)) = .ok v' w' ∧
      w'.ownsRow B 23 1 v' (L.length + 1) ((L.map fun (f : Nat) => Value.int .u64 (f : Int)) ++ [Value.int .u64 (y : Int)]) ∧ (w0.alloc (.cells #[.int .u64 (y : Int)] 23)).grownBy w' v.ownBlock ∧ (∀ k, v'.ownBlock = some k → v.ownBlock = some k ∨ w0.heap.size ≤ k) := by
    rcases hown1.2 with ⟨rfl, h0⟩ | ⟨g, cap, cur, rfl, hb, hg, hn, hm, hss, ht⟩
    · obtain rfl := List.eq_nil_of_length_eq_zero h0
      obtain ⟨v', w', hr, r1, r2, _⟩ := run_append_own (P := Tryz.prog) (w0.alloc (.cells #[.int .u64 (y : Int)] 23)) (w0.heap.size + 1) 38 o.type 23 i0 (.int .u64 0) 1 8 Tryz.underlying38 hi hz0 hz1 hz2 rfl (by decide) _ 0 [] (World.ownsRow_nil _ _ _ _) ⟨w0.heap.size, 0, none⟩ 1 1 [.int .u64 (y : Int)] rfl hnew h1c (by unfold maxLen; omega) (by omega) (by omega)
      exact ⟨v', w', hr, World.ownsRow.mono r1 (by omega), r2, fun k hk => .inr (by have := (World.ownsRow.lt r1 k hk).1; omega)⟩
    · by_cases hroom : L.length + 1 ≤ cap
      · obtain ⟨w', hr, r1, r2⟩ := run_append_fits (P := Tryz.prog) (w0.alloc (.cells #[.int .u64 (y : Int)] 23)) B 38 o.type 23 i0 1 Tryz.underlying38 hi hz1 g L.length cap _ hown1 ⟨w0.heap.size, 0, none⟩ 1 1 [.int .u64 (y : Int)] rfl hnew h1c hroom
        exact ⟨_, w', hr, r1, r2, fun k hk => .inl hk⟩
      · obtain ⟨v', w', hr, r1, r2⟩ := run_append_arg_grows (P := Tryz.prog) (w0.alloc (.cells #[.int .u64 (y : Int)] 23)) 38 o.type 23 i0 (.int .u64 0) 1 8 Tryz.underlying38 hi hz0 hz1 hz2 rfl (by decide) ⟨g, 0, none⟩ L.length cap _ hown1.1 (World.ownsRow.cells hown1 rfl) ⟨w0.heap.size, 0, none⟩ 1 1 [.int .u64 (y : Int)] rfl hnew (by omega) (by unfold maxLen; omega) (by omega)
        exact ⟨v', w', hr, World.ownsRow.mono r1 (by omega), ⟨r2.os, r2.tape, r2.output, r2.size, fun k hk _ => r2.block k hk (by simp)⟩, fun k hk => .inr (by have := (World.ownsRow.lt r1 k hk).1; omega)⟩
  obtain ⟨v', w', hrun, r1, r2, r3⟩ := key
  refine wpList_plain hgd fun K hK' => ?_
  unfold Oper.wp
  simp [execOp, ho, resolve, invoke, builtin, hs, hx, hrun, Result.andThen]
  refine hK' _ _ (h v' w' ?_ ?_ r3 ?_)
  · unfold OF
    rw [List.length_append, List.map_append]
    exact r1
  · refine ((Below.refl B w0).alloc hB _).grown r2 (by omega) ?_
    intro k hk
    exact (hown.lt k hk).1
  · intro k hk hne
    rw [r2.block k (by omega) (fun e => hne e.symm)]
    exact heap_alloc_old w0 _ hk
end Go.Proofs.YthlnapbjonlncaaGreatDoor
