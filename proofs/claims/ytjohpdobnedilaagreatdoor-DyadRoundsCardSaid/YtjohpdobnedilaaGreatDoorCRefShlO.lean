/- What the reference's shl does, and where its result lies. -/
import Derived.Test.YtjohpdobnedilaaGreatDoorCUBlk
namespace Go.Proofs.YtjohpdobnedilaaGreatDoor
open Go.RowKit

set_option maxRecDepth 100000 in
set_option maxHeartbeats 2000000 in
theorem refShl_own (zs : List Int) (s k : Nat) (ao : Option Addr) (n ca : Nat) (w : World) (ha : Sl w ao n ca zs) (hk : k < 32) (hn : n ≤ 1000000000) (hs : s ≤ 1000000000) :
    Calls Tryz.prog 127 #[.slice ao n ca, .int .i64 ((s * 32 + k : Nat) : Int)] w fun e w' => ∃ g cr L T, e = .returned (.slice (some ⟨g, 0, none⟩) (s + n + 1) cr) ∧ w.heap.size ≤ g ∧ UB w' g L T ∧ Wf L ∧ L.length = s + n + 1 ∧ num L = num zs * 4294967296 ^ s * 2 ^ k ∧ s + n + 1 ≤ cr ∧ Ext w w' := by
  have hd : ((s * 32 + k : Nat) : Int) / 32 = (s : Int) := by omega
  have hr : ((s * 32 + k : Nat) : Int) % 32 = (k : Int) := by omega
  obtain ⟨x, hx⟩ : ∃ x : Int, ((s * 32 + k : Nat) : Int) = x := ⟨_, rfl⟩
  rw [hx] at hd hr ⊢
  have hx0 : 0 ≤ x := by omega
  have hx1 : x ≤ 100000000000 := by omega
  have HX := Lib.hid hx; clear hx
  have hal := ha.len
  have HAL := Lib.hid hal; clear hal
  have hwz := ha.wf
  go_enter Tryz.func127, Tryz.ntmps127
  go_wp2_with (refine wpList_make_u32 _ rfl _ _ rfl _ s rfl rfl (by omega) (by omega) ?_)
  intro w1 hb1 hw1
  have hown0 := Own.of_blk hb1 (Nat.le_refl _) (by simp; omega)
  simp only [List.length_replicate] at hown0
  generalize hBe : w.heap.size = B at *
  have HBe := Lib.hid hBe; clear hBe hb1
  go_wp2
  go_loopw [5, 6, 7] (fun v c i wr => ∃ (q : Nat) (L : List Int) (cc : Int), q ≤ n ∧ i = .int .i64 q ∧ c = .int .u64 cc ∧ ShlAt zs k q L cc ∧ Own wr B v (List.replicate s 0 ++ L) ∧ Below B w wr) (fun _ _ i _ => n - (intOf i).toNat)
  case atStart => exact ⟨0, [], 0, Nat.zero_le _, rfl, rfl, ⟨rfl, Wf.nil, Int.le_refl _, two_pos k, by simp [num]⟩, by simpa using hown0, hw1⟩
  case round =>
    obtain ⟨q, L, cc, hq, rfl, rfl, hsh, hown, hB⟩ := hrel
    have hlen : (List.replicate s (0 : Int) ++ L).length = s + q := by rw [List.length_append, List.length_replicate, hsh.1]
    have hc0 := hsh.2.2.1
    have hc1 := hsh.2.2.2.1
    have HSH := Lib.hid hsh; clear hsh
    have hszq : B ≤ wr.heap.size := by have := hB.size; have := HBe.out; omega
    have HSZ := Lib.hid hszq; clear hszq
    have hlq : (List.replicate s (0 : Int) ++ L).length ≤ 1099511627776 := by omega
    have HLQ := Lib.hid hlq; clear hlq
    have HLEN := Lib.hid hlen; clear hlen
    by_cases hlt : q < n
    · obtain ⟨b, off, e0, hc⟩ := (ha.below (by rw [HBe.out]; exact hB)).cells (by rw [HAL.out]; omega)
      subst e0
      have c1 := hc q (by rw [HAL.out]; omega)
      clear hc
      obtain ⟨y, hy⟩ : ∃ y, zs.getD q 0 = y := ⟨_, rfl⟩
      have hyr := hwz.getD q
      rw [hy] at c1 hyr
      obtain ⟨y0, y1⟩ := hyr
      have HY := Lib.hid hy; clear hy
      have hor := or_low64 hk hc0 hc1 y0 y1
      have HOR := Lib.hid hor
      have HWR := Lib.hid (wrap_shl64 hk y0 y1)
      clear hor
      go_wp2_with (at_builtin; refine wpList_append_u32 _ rfl (.tmp 27) (.tmp 30) rfl B _ (List.replicate s 0 ++ L) _ rfl rfl hown HSZ.out HLQ.out ?_)
      intro v' w2 hown' hB1
      go_wp2
      go_roundw
      case rel =>
        rw [HWR.out, HOR.out.1] at hown' ⊢
        have h1 := HSH.out.step (by rw [HAL.out]; exact hlt) (t := cc + y * 2 ^ k) (by rw [HY.out]) HOR.out.2.1 HOR.out.2.2
        exact ⟨q + 1, _, _, by omega, by go_num, rfl, h1, hown', hB.trans hB1⟩
      case measure => simp [intOf] <;> omega
    · obtain rfl : q = n := by omega
      go_wp2_with (at_builtin; refine wpList_append_u32 _ rfl (.tmp 34) (.tmp 37) rfl B _ (List.replicate s 0 ++ L) _ rfl rfl hown HSZ.out HLQ.out ?_)
      intro v' w2 hown' hB1
      have hcc : cc % 4294967296 = cc := by
        have h3 := Int.pow_lt_pow_of_lt (show (1 : Int) < 2 by omega) hk
        have h4 : (2 : Int) ^ 32 = 4294967296 := rfl
        exact Int.emod_eq_of_lt hc0 (by omega)
      rw [hcc] at hown'
      have hwf : Wf (List.replicate s 0 ++ (L ++ [cc])) := (Wf.replicate s).append (HSH.out.2.1.append (Wf.cons ⟨hc0, by omega⟩ Wf.nil))
      have hll : (List.replicate s (0 : Int) ++ (L ++ [cc])).length = s + q + 1 := by
        rw [List.length_append, List.length_append, List.length_replicate, HSH.out.1]; rfl
      have hnum : num (List.replicate s 0 ++ (L ++ [cc])) = num zs * 4294967296 ^ s * 2 ^ k := by
        have h5 := HSH.out.2.2.2.2
        rw [List.take_of_length_le (by rw [HAL.out]; exact Nat.le_refl _)] at h5
        rw [num_append, num_append, num_replicate, List.length_replicate, HSH.out.1]
        simp only [num]
        rw [Int.mul_zero, Int.add_zero, h5, Int.zero_add, Int.mul_comm (num zs), ← Int.mul_assoc, Int.mul_comm (num zs), Int.mul_right_comm, Int.mul_assoc]
      obtain ⟨g, rc, T, hv', hBg, hub, hcap⟩ := hown'.ub (by simp)
      rw [hll] at hcap hv'
      subst hv'
      have HUB := Lib.hid hub
      have HNUM := Lib.hid hnum
      have HLL := Lib.hid hll
      have HWF := Lib.hid hwf
      clear hub hnum hown' hwf hll
      go_wp2
      go_ret
      exact ⟨g, rc, _, T, rfl, by rw [HBe.out]; exact hBg, HUB.out, HWF.out, HLL.out, HNUM.out, hcap, by rw [Ext, HBe.out]; exact hB.trans hB1⟩
end Go.Proofs.YtjohpdobnedilaaGreatDoor
