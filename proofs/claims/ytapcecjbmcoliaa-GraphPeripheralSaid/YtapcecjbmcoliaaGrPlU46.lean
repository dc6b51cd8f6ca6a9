import Derived.Test.YtapcecjbmcoliaaGrPlU45
namespace Go.Proofs.Ytapcecjbmcoliaa
open Go Go.RowKit

theorem inB_take {l : List Int} {z : Int} {j : Nat} (hj : j < l.length) : inB (l.take (j + 1)) z = (inB (l.take j) z || (l.getD j 0 == z)) := by
  rw [List.take_add_one, List.getElem?_eq_getElem hj]
  unfold inB
  rw [List.any_append]
  simp [List.getD, hj]
theorem inB_yes {l : List Int} {z : Int} {j : Nat} (hj : j < l.length) (h : l.getD j 0 = z) : inB l z = true := by
  unfold inB
  rw [List.any_eq_true]
  exact ⟨l[j], List.getElem_mem hj, by simpa [List.getD, hj] using h⟩
set_option maxRecDepth 100000 in
set_option maxHeartbeats 2000000 in
theorem in_any (ao : Option Addr) (n cap : Nat) (l : List Int) (z : Int) (w : World) (h : Ns w ao n cap l) (hn : n ≤ 1000000) :
    Calls Try.prog 25 #[.slice ao n cap, .int .i64 z] w fun e w' => e = .returned (.bool (inB l z)) ∧ w = w' := by
  obtain ⟨R, hR⟩ : ∃ R, inB l z = R := ⟨_, rfl⟩
  rw [hR]
  have HR := Lib.hid hR
  have HN := Lib.hid h
  have HL := Lib.hid h.len
  clear hR h
  go_enter Try.func25, Try.ntmps25
  go_wp2
  go_loopw [5] (fun iv wr => ∃ j : Nat, j ≤ n ∧ iv = .int .i64 (j : Int) ∧ Hid (inB (l.take j) z = false) ∧ w = wr)
    (fun iv _ => n - (intOf iv).toNat)
  case atStart => exact ⟨0, Nat.zero_le _, rfl, Lib.hid rfl, rfl⟩
  case round =>
    obtain ⟨j, hj, rfl, HF, rfl⟩ := hrel
    by_cases hlt : j < n
    · obtain ⟨b, o, rfl, hc⟩ := HN.out.cells (by omega)
      have hk := hc j hlt
      have hjl : j < l.length := by rw [HL.out]; exact hlt
      obtain ⟨y, hy⟩ : ∃ y, l.getD j 0 = y := ⟨_, rfl⟩
      rw [hy] at hk
      have HY := Lib.hid hy
      have HJL := Lib.hid hjl
      have hji : (j : Int) < (n : Int) := by omega
      clear hc hy hjl
      by_cases hyz : y = z
      · have hr : R = true := by rw [← HR.out]; exact inB_yes HJL.out (HY.out.trans hyz)
        subst hr
        subst hyz
        clear HF
        go_wp2
        go_ret
        exact ⟨rfl, rfl⟩
      · have HF2 := Lib.hid (show inB (l.take (j + 1)) z = false by
          rw [inB_take HJL.out, HF.out, HY.out, beq_eq_false_iff_ne.2 hyz]; rfl)
        go_wp2
        go_roundw
        case rel => exact ⟨j + 1, by omega, by go_num, HF2, trivial⟩
        case measure => simp [intOf]; omega
    · obtain rfl : j = n := by omega
      have hr : R = false := by
        rw [← HR.out, ← HF.out, List.take_of_length_le (by rw [HL.out]; exact Nat.le_refl _)]
      subst hr
      clear HF
      go_wp2
      go_ret
      exact ⟨rfl, rfl⟩
end Go.Proofs.Ytapcecjbmcoliaa
