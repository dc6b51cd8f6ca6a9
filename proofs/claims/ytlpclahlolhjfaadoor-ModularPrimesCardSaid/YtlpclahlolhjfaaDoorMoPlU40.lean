import Derived.Test.YtlpclahlolhjfaaDoorMoPlU23
namespace Go.Proofs.YtlpclahlolhjfaaDoor
open Go.RowKit

/-- the slice of length n at block g reads as the number a, and can be written -/
def Owns (w : World) (g n ca a : Nat) : Prop := ∃ L, Blk w g L ∧ Wf L ∧ L.take n = limbs a ∧ n ≤ L.length ∧ L.length = ca ∧ L.length ≤ 1099511627776

theorem Owns.of {w : World} {g i m : Nat} {L : List Int} (h : Blk w g L) (hw : Wf L) (hi : (limbs (num L).toNat).length = i) (hm : L.length = m) (hb : L.length ≤ 1099511627776) : Owns w g i m (num L).toNat := by
  have e := take_tlen hw L.length (Nat.le_refl _)
  rw [← tlen_eq hw, hi, List.take_length] at e
  exact ⟨L, h, hw, e, by rw [← hi, tlen_eq hw]; exact tlen_le _ _, hm, hb⟩

theorem Owns.sl {w : World} {g n ca a : Nat} (h : Owns w g n ca a) : Sl w (some ⟨g, 0, none⟩) n ca (limbs a) := by
  obtain ⟨L, h1, h2, h3, h4, h5, h6⟩ := h
  rw [← h3]
  exact (h1.sl (n := L.length) h2 rfl h6 (Nat.le_of_eq h5)).take n h4

theorem Owns.below {w w' : World} {g n ca a : Nat} (h : Owns w g n ca a) (hb : Below w.heap.size w w') : Owns w' g n ca a := by
  obtain ⟨L, h1, h2⟩ := h
  exact ⟨L, h1.below hb, h2⟩
theorem Owns.lt {w : World} {g n ca a : Nat} (h : Owns w g n ca a) : g < w.heap.size := by
  obtain ⟨L, h1, h2⟩ := h
  exact h1.lt

/-- a number in memory of its own, from block B on, or zero -/
def OwnR (w : World) (B : Nat) (ao : Option Addr) (n ca a : Nat) : Prop := a = 0 ∧ n = 0 ∨ ∃ g, ao = some ⟨g, 0, none⟩ ∧ B ≤ g ∧ Owns w g n ca a

set_option maxRecDepth 100000 in
set_option maxHeartbeats 1000000 in
theorem shiftDown_own (zs : List Int) (s k : Nat) (ao : Option Addr) (n ca : Nat) (w : World) (ha : Sl w ao n ca zs) (hk : k < 32) (hn : n ≤ 1000000000) (hs : s < n) :
    Calls Tryd.prog 87 #[.slice ao n ca, .int .i64 ((s * 32 + k : Nat) : Int)] w fun e w' => ∃ g l cap, e = .returned (.slice (some ⟨g, 0, none⟩) l cap) ∧ Owns w' g l cap (num (zs.drop s) / 2 ^ k).toNat ∧ w.heap.size ≤ g ∧ Below w.heap.size w w' := by
  have hd : ((s * 32 + k : Nat) : Int) / 32 = (s : Int) := by omega
  have hr : ((s * 32 + k : Nat) : Int) % 32 = (k : Int) := by omega
  obtain ⟨x, hx⟩ : ∃ x : Int, ((s * 32 + k : Nat) : Int) = x := ⟨_, rfl⟩
  rw [hx] at hd hr ⊢
  have hx0 : 0 ≤ x := by omega
  have hx1 : x ≤ 100000000000 := by omega
  have HX := Lib.hid hx; clear hx
  have hcap := ha.cap
  have hsd : ∀ ao', (∀ b off, ao = some ⟨b, off, none⟩ → ao' = some ⟨b, off + s, none⟩) → Sl w ao' (n - s) (ca - s) (zs.drop s) := fun ao' h =>
    ⟨by rw [List.length_drop, ha.len], by omega, by omega, ha.wf.drop s, fun h0 => by
      obtain ⟨b, off, e, hc⟩ := ha.cells (by rw [ha.len]; omega)
      refine ⟨b, off + s, h b off e, fun j hj => ?_⟩
      rw [List.length_drop, ha.len] at hj
      have := hc (s + j) (by rw [ha.len]; omega)
      rw [show off + s + j = off + (s + j) by omega, this]
      simp [List.getD, List.getElem?_drop]⟩
  obtain ⟨bb, ob, rfl, hcb⟩ := ha.cells (by rw [ha.len]; omega)
  have hs1 := hsd (some ⟨bb, ob + s, none⟩) (fun b off e => by cases e; rfl)
  clear hsd hcb
  go_enter Tryd.func87, Tryd.ntmps87
  go_wp2_with fail
  refine (clone_any _ _ _ _ _ hs1).mono ?_
  rintro e w1 ⟨rfl, hb1, hw1⟩
  have hsa := ha.cells.stay_below hw1 (Nat.le_refl _)
  generalize hg : w.heap.size = g at *
  have HG := Lib.hid hg; clear hg
  have hal := ha.len
  have HAL := Lib.hid hal; clear hal
  have hwz := ha.wf
  have hm0 : 0 < n - s := by omega
  have hmn : n - s ≤ n := by omega
  have hms : (((n - s : Nat) : Int)) = (n : Int) - s := by omega
  have HMS := Lib.hid hms; clear hms
  generalize hm : n - s = m at *
  have HM := Lib.hid hm; clear hm
  go_wp2
  go_loopw [8, 23] (fun _ i wr => ∃ (j : Nat) (Lj : List Int), j ≤ m ∧ i = .int .i64 j ∧ Down (zs.drop s) Lj m k j ∧ Blk wr g Lj ∧ Only g w1 wr)
    (fun _ i _ => m - (intOf i).toNat)
  case atStart => exact ⟨0, _, Nat.zero_le _, rfl, Down.start (by rw [List.length_drop, HAL.out, HM.out]) (hwz.drop s), hb1, Only.refl g w1⟩
  case round =>
    obtain ⟨j, Lj, hj, rfl, hU, hbk, ho⟩ := hrel
    have hl := hU.1
    have HU := Lib.hid hU; clear hU
    by_cases hlt : j < m
    · have c2 := hbk.cell j (by omega)
      have c3 := hbk.frozen j
      obtain ⟨y, hy⟩ : ∃ y, Lj.getD j 0 = y := ⟨_, rfl⟩
      rw [hy] at c2
      have HY := Lib.hid hy; clear hy
      have hyr := (HU.out.2.1.getD j)
      rw [HY.out] at hyr
      obtain ⟨y0, y1⟩ := hyr
      have HL := Lib.hid hl; clear hl
      by_cases hnx : s + j + 1 < n
      · obtain ⟨b2, o2, e2, hcb⟩ := hsa _ ho (by rw [HAL.out]; omega)
        cases e2
        have c1 := hcb (s + j + 1) (by rw [HAL.out]; omega)
        clear hcb
        obtain ⟨z, hz⟩ : ∃ z, zs.getD (s + j + 1) 0 = z := ⟨_, rfl⟩
        rw [hz] at c1
        have hzr := hwz.getD (s + j + 1)
        rw [hz] at hzr
        have HZ := Lib.hid hz; clear hz
        obtain ⟨z0, z1⟩ := hzr
        go_wp2
        have hb2 := hbk.set j (y / 2 ^ k)
        have ho2 := ho.setCell j (.int .u32 (y / 2 ^ k))
        generalize wr.setCell ⟨g, j, none⟩ (.int .u32 (y / 2 ^ k)) = W2 at *
        obtain ⟨b3, o3, e3, hcb⟩ := hsa _ ho2 (by rw [HAL.out]; omega)
        cases e3
        have c5 := hcb (s + j + 1) (by rw [HAL.out]; omega)
        rw [HZ.out] at c5
        clear hcb c1 c2 c3 hbk ho
        have c6 := hb2.cell j (by simp; rw [HL.out]; omega)
        have hgd : (Lj.set j (y / 2 ^ k)).getD j 0 = y / 2 ^ k := by rw [getD_set _ _ _ _ (by rw [HL.out]; omega), if_pos rfl]
        rw [hgd] at c6
        clear hgd
        have c7 := hb2.frozen j
        go_region
        go_wp2
        go_roundw
        case rel =>
          obtain ⟨t1, t2, t3⟩ := limb_down (z := z) hk y0 y1
          have hyd : (zs.drop s).getD j 0 = y := by rw [← HY.out, getD_of_drop HU.out.2.2.1]
          have hzd : (zs.drop s).getD (j + 1) 0 = z := by rw [← HZ.out]; simp [List.getD, List.getElem?_drop, Nat.add_assoc]
          have st := HU.out.step hlt _ (by rw [hyd, hzd]) ⟨t2, t3⟩
          have hbn := (hb2.set j (bits BinOp.or IntKind.u32 (y / 2 ^ k) (z * 2 ^ (32 - k) % 4294967296))).drew
          rw [t1] at hbn ⊢
          rw [List.set_set] at hbn
          exact ⟨j + 1, _, by omega, by go_num, st, hbn, (ho2.setCell _ _).drew⟩
        case measure => simp [intOf] <;> omega
      · go_wp2
        go_roundw
        case rel =>
          have hyd : (zs.drop s).getD j 0 = y := by rw [← HY.out, getD_of_drop HU.out.2.2.1]
          have hzd : (zs.drop s).getD (j + 1) 0 = 0 := by
            have := HAL.out
            simp only [List.getD, List.getElem?_drop]
            rw [List.getElem?_eq_none (by omega)]; rfl
          have hp : (0 : Int) < 2 ^ k := Int.pow_pos (by omega)
          have a0 : 0 ≤ y / 2 ^ k := Int.ediv_nonneg y0 (by omega)
          have a1 : y / 2 ^ k ≤ y := Int.ediv_le_self _ y0
          have st := HU.out.step hlt (y / 2 ^ k) (by rw [hyd, hzd]; simp) ⟨a0, by omega⟩
          exact ⟨j + 1, _, by omega, by go_num, st, hbk.set _ _, ho.setCell _ _⟩
        case measure => simp [intOf] <;> omega
    · obtain rfl : j = m := by omega
      have HL := Lib.hid hl; clear hl
      go_wp2_with fail
      refine (trim_sl _ _ _ Lj wr (hbk.sl HU.out.2.1 HL.out (by omega) (Nat.le_refl _))).mono ?_
      rintro e w4 ⟨i, rfl, hs4, rfl⟩
      go_wp2
      go_ret
      refine ⟨g, i, _, rfl, ?_, Nat.le_of_eq HG.out, by rw [HG.out]; exact hw1.trans (ho.below (Nat.le_refl _))⟩
      have ow := Owns.of hbk HU.out.2.1 hs4.len HL.out (by rw [HL.out]; omega)
      rw [HU.out.done hk] at ow
      exact ow


theorem shiftDown_own0 (a k : Nat) (ao : Option Addr) (n ca : Nat) (w : World) (ha : Sl w ao n ca (limbs a)) (hk : k < 32) (hn : n ≤ 1000000000) (h0 : 0 < n) :
    Calls Tryd.prog 87 #[.slice ao n ca, .int .i64 (k : Int)] w fun r w' => ∃ g l cap, r = .returned (.slice (some ⟨g, 0, none⟩) l cap) ∧ Owns w' g l cap (a / 2 ^ k) ∧ w.heap.size ≤ g ∧ Below w.heap.size w w' := by
  have h := shiftDown_own (limbs a) 0 k ao n ca w ha hk hn h0
  have e2 : (num ((limbs a).drop 0) / 2 ^ k).toNat = a / 2 ^ k := by
    rw [List.drop_zero, num_limbs]
    have : (a : Int) / 2 ^ k = ((a / 2 ^ k : Nat) : Int) := by rw [Int.natCast_ediv, Int.natCast_pow]; rfl
    rw [this, Int.toNat_natCast]
  rw [e2, Nat.zero_mul, Nat.zero_add] at h
  exact h

end Go.Proofs.YtlpclahlolhjfaaDoor
