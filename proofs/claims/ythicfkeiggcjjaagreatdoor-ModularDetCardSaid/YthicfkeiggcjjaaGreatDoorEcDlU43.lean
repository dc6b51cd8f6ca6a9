import Derived.Test.YthicfkeiggcjjaaGreatDoorEcDlU42
import Derived.Test.YthicfkeiggcjjaaGreatDoorEcDlU15
import Derived.Test.YthicfkeiggcjjaaGreatDoorEcDlU4
import Derived.Deep.QuietTactic
import Derived.Deep.CutRange
import Derived.Deep.RegionHeld3
import Derived.Deep.RegionWith
namespace Go.Proofs.YthicfkeiggcjjaaGreatDoor
open Go Go.RowKit

/-- but for block g, all that there was is as it was -/
structure But (g : Nat) (w w' : World) : Prop where
  os : w'.os = w.os
  tape : w'.tape = w.tape
  output : w'.output = w.output
  size : w.heap.size ≤ w'.heap.size
  block : ∀ k, k < w.heap.size → k ≠ g → w'.heap[k]? = w.heap[k]?
theorem But.refl (g : Nat) (w : World) : But g w w := ⟨rfl, rfl, rfl, Nat.le_refl _, fun _ _ _ => rfl⟩
theorem But.trans {g : Nat} {a b c : World} (h : But g a b) (k : But g b c) : But g a c :=
  ⟨k.os.trans h.os, k.tape.trans h.tape, k.output.trans h.output, Nat.le_trans h.size k.size, fun i hi hne => (k.block i (by have := h.size; omega) hne).trans (h.block i hi hne)⟩
theorem But.of_below {g : Nat} {w w' : World} (h : Below w.heap.size w w') : But g w w' := ⟨h.os, h.tape, h.output, h.size, fun k hk _ => h.block k hk⟩
theorem But.of_only {g : Nat} {w w' : World} (h : Only g w w') : But g w w' := ⟨h.os, h.tape, h.output, Nat.le_of_eq h.size.symm, fun k _ hne => h.block k hne⟩
theorem But.drew {g : Nat} {a w : World} (h : But g a w) : But g a w.drew := ⟨h.os, h.tape, h.output, h.size, h.block⟩
theorem But.below {g B : Nat} {w w' : World} (h : But g w w') (hB : B ≤ w.heap.size) (hg : B ≤ g) : Below B w w' := ⟨h.os, h.tape, h.output, h.size, fun k hk => h.block k (by omega) (by omega)⟩
theorem Blk.but {w w' : World} {g k : Nat} {L : List Int} (h : Blk w k L) (hb : But g w w') (hne : k ≠ g) : Blk w' k L := by
  unfold Blk; rw [hb.block k h.lt hne]; exact h
theorem Sl.but {w w' : World} {ao : Option Addr} {n cap C g : Nat} {zs : List Int} (h : Sl w ao n cap zs) (hn : NewA C ao n) (hg : g < C) (hb : But g w w') : Sl w' ao n cap zs := by
  refine ⟨h.len, h.cap, h.big, h.wf, fun h0 => ?_⟩
  obtain ⟨b, off, e, hc⟩ := h.cells h0
  obtain ⟨b', e', hb'⟩ := hn (by rw [← h.len]; exact h0)
  rw [e] at e'
  injection e' with e'
  injection e' with e1 e2
  subst e1
  refine ⟨b, off, e, fun j hj => ?_⟩
  have hj' := hc j hj
  have e2 : w'.cell? ⟨b, off + j, none⟩ = w.cell? ⟨b, off + j, none⟩ := World.cell?_of_block (w := w) (hb.block b (lt_of_cell hj') (by omega))
  rw [e2]; exact hj'
/-- the powers of 10^9: each the square of the one before -/
structure LP (w : World) (po : Option Addr) (K pc : Nat) : Prop where
  cap : K ≤ pc
  cells : 0 < K → ∃ b off, po = some ⟨b, off, none⟩ ∧ ∀ j, j < K → ∃ ao n ca, w.cell? ⟨b, off + j, none⟩ = some (.slice ao n ca) ∧ Sl w ao n ca (limbs (1000000000 ^ 2 ^ j)) ∧ n ≤ 100000000
theorem LP.pre {w : World} {po : Option Addr} {K pc : Nat} (h : LP w po (K + 1) pc) : LP w po K pc :=
  ⟨Nat.le_trans (Nat.le_succ K) h.cap, fun h0 => by
    obtain ⟨b, off, e, hc⟩ := h.cells (by omega)
    exact ⟨b, off, e, fun j hj => hc j (by omega)⟩⟩
theorem pow9_pos (K : Nat) : 1000000000 ^ 2 ^ K ≠ 0 := Nat.ne_of_gt (Nat.pow_pos (by omega))

set_option maxRecDepth 100000 in
set_option maxHeartbeats 8000000 in
theorem split_any (K : Nat) : ∀ (v n : Nat) (_ : v < 1000000000 ^ 2 ^ K) (_ : 2 ^ K = n) (_ : n ≤ 1000000) (mo po : Option Addr) (mn mc pc g o cap : Nat) (L : List Int) (w : World)
    (_ : ∀ w', But g w w' → Sl w' mo mn mc (limbs v)) (_ : ∀ w', But g w w' → LP w' po K pc) (_ : Blk w g L) (_ : (L.drop o).take n = List.replicate n 0) (_ : o + n ≤ L.length) (_ : n ≤ cap) (_ : mn ≤ 100000000) (_ : pc ≤ 9223372036854775807) (_ : cap ≤ 1000000),
    Calls Tryz.prog 75 #[.slice mo mn mc, .slice po K pc, .slice (some ⟨g, o, none⟩) n cap] w fun e w' => e = .returned (.tuple #[]) ∧ Blk w' g (putW L o ((digs K v).map Int.ofNat)) ∧ But g w w' := by
  induction K with
  | zero =>
    intro v n hv hn hn6 mo po mn mc pc g o cap L w hm hp hL hz ho hcap hmn hpc hcp
    obtain rfl : n = 1 := by rw [← hn]
    have hs := hm w (But.refl g w)
    have hv9 : v < 1000000000 := by simpa using hv
    have hlen := len_zero_iff hs.len
    have HV := Lib.hid hv9
    have HZ := Lib.hid hz
    have HLB := Lib.hid hL
    have HO := Lib.hid ho
    clear hv hz hm hp hv9 ho
    by_cases h0 : mn = 0
    · subst h0
      have hv0 : v = 0 := hlen.1 rfl
      subst hv0
      have e1 : putW L o ((digs 0 0).map Int.ofNat) = L := putW_same HZ.out HO.out
      have E1 := Lib.hid e1
      clear e1 hlen hs hL
      go_enter Tryz.func75, Tryz.ntmps75
      go_wp2
      refine bodyPost_ret (results_none rfl _ _ _) rfl ?_
      exact ⟨rfl, by rw [E1.out]; exact HLB.out, But.refl _ _⟩
    · have hv0 : v ≠ 0 := fun h => h0 (hlen.2 h)
      have hl1 : limbs v = [(v : Int)] := by
        rw [limbs_pos hv0, show v / 4294967296 = 0 by have := HV.out; omega, limbs_zero, show v % 4294967296 = v by have := HV.out; omega]
      rw [hl1] at hs
      obtain rfl : 1 = mn := hs.len
      obtain ⟨b, off, rfl, hc⟩ := hs.cells (by simp)
      have c1 := hc 0 (by simp)
      rw [Nat.add_zero, show [(v : Int)].getD 0 0 = (v : Int) from rfl] at c1
      have hol : o < L.length := by have := HO.out; omega
      have c2 := hL.cell o hol
      have c3 := hL.frozen o
      have e1 : putW L o ((digs 0 v).map Int.ofNat) = L.set o (v : Int) := putW_one _ hol
      have E1 := Lib.hid e1
      have HSET := Lib.hid (hL.set o (v : Int))
      clear hlen hs hc hl1 e1 hL h0 hv0
      go_enter Tryz.func75, Tryz.ntmps75
      go_wp2
      refine bodyPost_ret (results_none rfl _ _ _) rfl ?_
      exact ⟨rfl, by rw [E1.out]; exact HSET.out, But.of_only ((Only.refl g w).setCell _ _)⟩
  | succ K ih =>
    intro v n hv hn hn6 mo po mn mc pc g o cap L w hm hp hL hz ho hcap hmn hpc hcp
    obtain ⟨H, hH⟩ : ∃ H, 2 ^ K = H := ⟨_, rfl⟩
    have hnn : H + H = n := by rw [← hn, Nat.pow_succ, hH]; omega
    have hHp : 0 < H := by rw [← hH]; exact Nat.pow_pos (by omega)
    obtain ⟨P, hP⟩ : ∃ P, 1000000000 ^ 2 ^ K = P := ⟨_, rfl⟩
    have hP0 : P ≠ 0 := by rw [← hP]; exact pow9_pos K
    have hs := hm w (But.refl g w)
    have hlp := hp w (But.refl g w)
    have hlen := len_zero_iff hs.len
    have HLB := Lib.hid hL
    by_cases h0 : mn = 0
    · subst h0
      have hv0 : v = 0 := hlen.1 rfl
      subst hv0
      have E1 := Lib.hid (show putW L o ((digs (K + 1) 0).map Int.ofNat) = L by
        rw [digs_null, hn, List.map_replicate]; exact putW_same hz ho)
      clear hlen hs hL hz hm hp hv hlp ih
      go_enter Tryz.func75, Tryz.ntmps75
      go_wp2
      refine bodyPost_ret (results_none rfl _ _ _) rfl ?_
      exact ⟨rfl, by rw [E1.out]; exact HLB.out, But.refl _ _⟩
    · obtain ⟨pb, pf, rfl, hpc'⟩ := hlp.cells (by omega)
      obtain ⟨ao, an, ac, hcell, hsp, han⟩ := hpc' K (by omega)
      rw [hP] at hsp
      have hgl := hL.lt
      have DV := Lib.hid (divide_new v P hP0 mo ao mn an mc ac w hs hsp hmn)
      have hlo : v % P < 1000000000 ^ 2 ^ K := by rw [hP]; exact Nat.mod_lt _ (Nat.pos_of_ne_zero hP0)
      have hhi : v / P < 1000000000 ^ 2 ^ K := by
        rw [hP, Nat.div_lt_iff_lt_mul (Nat.pos_of_ne_zero hP0), ← hP, ← Nat.pow_add]
        rw [show 2 ^ (K + 1) = 2 ^ K + 2 ^ K by rw [Nat.pow_succ]; omega] at hv
        exact hv
      have IH1 := Lib.hid (fun mo mn mc w h1 h2 h3 h4 => ih (v % P) H hlo hH (by omega) mo (some ⟨pb, pf, none⟩) mn mc pc g o cap L w h1 h2 h3 (by
        have := congrArg (List.take H) hz
        rw [List.take_take, Nat.min_eq_left (by omega), List.take_replicate, Nat.min_eq_left (by omega)] at this
        exact this) (by omega) (by omega) h4 hpc hcp)
      have dl : ((digs K (v % P)).map Int.ofNat).length = H := by rw [List.length_map, digs_zero_len, hH]
      have dh : ((digs K (v / P)).map Int.ofNat).length = H := by rw [List.length_map, digs_zero_len, hH]
      have hpl := putW_len (L := L) (o := o) (D := (digs K (v % P)).map Int.ofNat) (by omega)
      have hpd := putW_drop (L := L) (o := o) (D := (digs K (v % P)).map Int.ofNat) (by omega)
      rw [dl] at hpd
      have IH2 := Lib.hid (fun mo mn mc w h1 h2 h3 h4 => ih (v / P) H hhi hH (by omega) mo (some ⟨pb, pf, none⟩) mn mc pc g (o + H) (cap - H) (putW L o ((digs K (v % P)).map Int.ofNat)) w h1 h2 h3 (by
        rw [hpd]
        have := congrArg (List.drop H) hz
        rw [List.drop_take, List.drop_drop, List.drop_replicate, show n - H = H by omega] at this
        exact this) (by omega) (by omega) h4 hpc (by omega))
      have E1 := Lib.hid (show putW (putW L o ((digs K (v % P)).map Int.ofNat)) (o + H) ((digs K (v / P)).map Int.ofNat) = putW L o ((digs (K + 1) v).map Int.ofNat) by
        have := putW_two (L := L) (o := o) (D := (digs K (v % P)).map Int.ofNat) (E := (digs K (v / P)).map Int.ofNat) (by rw [dl, dh]; omega)
        rw [dl] at this
        rw [this, ← List.map_append, ← hP]; rfl)
      have HLP := Lib.hid hp
      have hKpc := hlp.cap
      have HVL := Lib.hid hs.len
      clear hlen hs hL hz hm hp hv hlp ih hlo hhi dl dh hpl hpd hsp hpc' hn hH hP ho
      go_enter Tryz.func75, Tryz.ntmps75
      have hw1 : ((K + 1 : Nat) : Int) - 1 = (K : Int) := by omega
      have hw3 : (n : Int) / 2 = (H : Int) := by omega
      have hw4 : n - H = H := by omega
      have hHn : (H : Int) ≤ (n : Int) := by omega
      have HNN := Lib.hid hnn
      clear hnn
      go_wp2_with fail
      refine DV.out.mono ?_
      rintro e w1 ⟨qo, qk, qc, ro, rk, rc, rfl, hq, hr, hnq, hnr, hB1⟩
      have ho1 : Blk w1 g L := HLB.out.below hB1
      have hbut1 : But g w w1 := But.of_below hB1
      have hgw : g < w.heap.size := hgl
      have HM1 := Lib.hid (show ∀ w', But g w1 w' → Sl w' ro rk rc (limbs (v % P)) from fun w' h => hr.but hnr hgw h)
      have HP1 := Lib.hid (show ∀ w', But g w1 w' → LP w' (some ⟨pb, pf, none⟩) K pc from fun w' h => (HLP.out w' (hbut1.trans h)).pre)
      have HM2 := Lib.hid (show ∀ w', But g w1 w' → Sl w' qo qk qc (limbs (v / P)) from fun w' h => hq.but hnq hgw h)
      have hrk : rk ≤ 100000000 := by
        have h1 := hr.len
        have h2 := limbs_mono (Nat.mod_le v P)
        rw [h1, HVL.out] at h2; omega
      have hqk : qk ≤ 100000000 := by
        have h1 := hq.len
        have h2 := limbs_mono (Nat.div_le_self v P)
        rw [h1, HVL.out] at h2; omega
      have HB1 := Lib.hid ho1
      have HT1 := Lib.hid hbut1
      clear hq hr hnq hnr hB1 ho1 hbut1
      have st : But g w1 w1 := But.refl _ _
      have hKc : (K : Int) ≤ (pc : Int) := by omega
      have hHc : (H : Int) ≤ (cap : Int) := by omega
      have hne1 : ¬ cap = H := by omega
      go_upto_region 6 with fail
      have st : But g w1 _ := st.drew
      have HB1d := Lib.hid (show Blk w1.drew g L from HB1.out)
      first | (go_region_with (first
        | (go_at_call 75; (with_reducible refine (IH1.out _ _ _ _ (fun w' h => HM1.out w' (st.trans h)) (fun w' h => HP1.out w' (st.trans h)) HB1d.out hrk).mono ?_); rintro e w2 ⟨rfl, hb2, hbt2⟩; have st2 : But g w1 w2 := st.trans hbt2))) | fail "no walk"
      go_upto_region 7 with fail
      have HB2d := Lib.hid (show Blk w2.drew g _ from hb2)
      first | (go_region_with (first
        | (go_at_call 75; (with_reducible refine (IH2.out _ _ _ _ (fun w' h => HM2.out w' (st2.drew.trans h)) (fun w' h => HP1.out w' (st2.drew.trans h)) HB2d.out hqk).mono ?_); rintro e w3 ⟨rfl, hb3, hbt3⟩; have st3 : But g w1 w3 := st2.drew.trans hbt3))) | fail "no walk"
      refine ⟨rfl, _, results_none rfl _ _ _, ?_⟩
      exact ⟨rfl, by rw [← E1.out]; exact hb3, HT1.out.trans st3⟩
end Go.Proofs.YthicfkeiggcjjaaGreatDoor
