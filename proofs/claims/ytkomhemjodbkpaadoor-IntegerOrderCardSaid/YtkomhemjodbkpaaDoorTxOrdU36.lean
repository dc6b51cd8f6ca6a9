import Derived.Laws.Strings3
import Derived.Lib.ItoaWalk
import Derived.Lib.Strings
import Derived.Test.YtkomhemjodbkpaaDoorTxOrdU8
namespace Go.Proofs.YtkomhemjodbkpaaDoor
open Go Go.RowKit

/-- a byte of a text -/
theorem run_byte {s : ByteArray} {k : Nat} (hk : k < s.size) (W : World) : (Instr.index 9 (.string s) (.int .i64 (k : Int))).run Tryd.prog W = .ok (.int .u8 (((s.data.toList.getD k 0).toNat : Nat) : Int)) W := by
  rw [run_index_string W 9 s .i64 (k : Int) Tryd.underlying9, dif_pos ⟨by omega, by omega⟩]
  have := Lib.getD_at s k hk
  simp only [Int.toNat_natCast]
  rw [this]
theorem empty_not (s : ByteArray) : (!s.toList.isEmpty) = decide (s.size ≠ 0) := by
  rw [Lib.toList_data, Lib.size_eq]
  cases s.data.toList <;> simp
theorem getD_mem {l : List UInt8} {k : Nat} (h : k < l.length) : l.getD k 0 ∈ l := by
  simp [List.getD, h]

set_option maxRecDepth 100000 in
set_option maxHeartbeats 4000000 in
theorem isDigits_any (s : ByteArray) (hs : s.size ≤ 1000000) (b : Bool) (hb : (decide (s.size ≠ 0) && s.data.toList.all isDig) = b) (w : World) :
    Calls Tryd.prog 21 #[.string s] w fun e w' => e = .returned (.bool b) ∧ w = w' := by
  have HB := Lib.hid hb
  have HL := Lib.hid (Lib.size_eq s)
  clear hb
  go_enter Tryd.func21, Tryd.ntmps21
  go_wp2
  go_loopw [3, 6] (fun _ i wr => ∃ k : Nat, k ≤ s.size ∧ i = .int .i64 k ∧ Hid (∀ j, j < k → isDig (s.data.toList.getD j 0) = true) ∧ w = wr) (fun _ i _ => s.size - (intOf i).toNat)
  case atStart => exact ⟨0, Nat.zero_le _, rfl, fun j hj => absurd hj (by omega), rfl⟩
  case round =>
    obtain ⟨k, hk, rfl, hA, rfl⟩ := hrel
    by_cases hlt : k < s.size
    · have hix := fun W => run_byte hlt W
      obtain ⟨x, hx⟩ : ∃ x : Nat, (s.data.toList.getD k 0).toNat = x := ⟨_, rfl⟩
      rw [hx] at hix
      have HX := Lib.hid hx
      clear hx
      have no : ¬ (48 ≤ x ∧ x ≤ 57) → false = b := fun hn => by
        rw [← HB.out]
        have : s.data.toList.all isDig = false := by
          rw [List.all_eq_false]
          refine ⟨_, getD_mem (k := k) (by rw [← HL.out]; exact hlt), ?_⟩
          unfold isDig
          rw [HX.out]
          simp only [Bool.and_eq_true, decide_eq_true_eq]
          exact hn
        rw [this, Bool.and_false]
      have NO := Lib.hid no
      clear no
      by_cases h1 : x < 48
      · have h1' : (x : Int) < 48 := by omega
        go_wp2
        go_ret
        exact ⟨by rw [NO.out (by omega)]; rfl, rfl⟩
      · have h1' : ¬ (x : Int) < 48 := by omega
        by_cases h2 : 57 < x
        · have h2' : (57 : Int) < x := by omega
          go_wp2
          go_ret
          exact ⟨by rw [NO.out (by omega)]; rfl, rfl⟩
        · have h2' : ¬ (57 : Int) < x := by omega
          go_wp2
          go_roundw
          case rel =>
            refine ⟨k + 1, by omega, by go_num, fun j hj => ?_, by first | rfl | trivial⟩
            rcases Nat.lt_or_ge j k with h | h
            · exact hA j h
            · obtain rfl : j = k := by omega
              unfold isDig
              rw [HX.out, decide_eq_true (show 48 ≤ x by omega), decide_eq_true (show x ≤ 57 by omega)]; rfl
          case measure => simp [intOf] <;> omega
    · obtain rfl : k = s.size := by omega
      have hr : decide (s.size ≠ 0) = b := by
        rw [← HB.out]
        have : s.data.toList.all isDig = true := by
          rw [List.all_eq_true]
          intro c hc
          obtain ⟨j, hj, rfl⟩ := List.getElem_of_mem hc
          have := hA j (by rw [HL.out]; exact hj)
          rw [List.getD, List.getElem?_eq_getElem hj] at this
          exact this
        rw [this, Bool.and_true]
      have HR := Lib.hid hr
      clear hr
      go_wp2
      go_ret
      exact ⟨by rw [← HR.out]; exact congrArg (fun z => Ending.returned (Value.bool z)) (empty_not s), rfl⟩
end Go.Proofs.YtkomhemjodbkpaaDoor

namespace Go.Proofs.YtkomhemjodbkpaaDoor
open Go Go.RowKit

theorem Own.setCell {w : World} {B g n cap : Nat} {L : List Int} (h : Own w B (.slice (some ⟨g, 0, none⟩) n cap) L) (i : Nat) (x : Int) : Own (w.setCell ⟨g, i, none⟩ (.int .u32 x)) B (.slice (some ⟨g, 0, none⟩) n cap) (L.set i x) := by
  unfold Own at h ⊢
  rw [List.length_set]
  obtain ⟨h1, h2⟩ := h
  refine ⟨by simp, ?_⟩
  rcases h2 with ⟨hv, h0⟩ | ⟨g', cap', cur, hv, hb, hg, hc, hm, hs, ht⟩
  · cases hv
  · obtain ⟨⟨rfl, -⟩, rfl, rfl⟩ : (g = g' ∧ True) ∧ n = L.length ∧ cap = cap' := by
      injection hv with e1 e2 e3
      injection e1 with e1
      injection e1 with e1
      exact ⟨⟨e1, trivial⟩, e2, e3⟩
    refine .inr ⟨g, cap, cur.setIfInBounds i (.int .u32 x), rfl, hb, ?_, hc, hm, by simpa using hs, ?_⟩
    · simp [World.setCell, Array.getElem?_modify, hg]
    · rw [Array.toList_setIfInBounds, List.take_set, ht, List.map_set]
theorem Own.form {w : World} {B n cap : Nat} {ao : Option Addr} {L : List Int} (h : Own w B (.slice ao n cap) L) (h0 : L ≠ []) : ∃ g T, ao = some ⟨g, 0, none⟩ ∧ B ≤ g ∧ UB w g L T ∧ n = L.length ∧ n ≤ cap := by
  obtain ⟨g, cap', T, hv, hb, hu, hc⟩ := h.ub h0
  injection hv with e1 e2 e3
  exact ⟨g, T, e1, hb, hu, e2, by omega⟩

set_option maxRecDepth 100000 in
set_option maxHeartbeats 4000000 in
theorem appendGroup_any (v gr B : Nat) (vv : Value) (w : World) (hown : Own w B vv (limbs v)) (hB : B ≤ w.heap.size) (hg : gr < 1000000000) (hl : (limbs v).length ≤ 1000000) :
    Calls Tryd.prog 45 #[vv, .int .u32 (gr : Int)] w fun e w' => ∃ v', e = .returned v' ∧ Own w' B v' (limbs (v * 1000000000 + gr)) ∧ Below B w w' := by
  obtain ⟨ao, cap, rfl, -⟩ := hown.sl (Wf.limbs v) (by omega)
  obtain ⟨n, hn⟩ : ∃ n, (limbs v).length = n := ⟨_, rfl⟩
  rw [hn] at hown ⊢
  have HN := Lib.hid hn
  have hnl : n ≤ 1000000 := by omega
  clear hn hl
  have hg' : (gr : Int) < 1000000000 := by omega
  have HM0 := Lib.hid (MulAdd.start (M := 1000000000) (g := (gr : Int)) (Wf.limbs v) (by omega) (by omega))
  go_enter Tryd.func45, Tryd.ntmps45
  go_wp2
  go_loopw [5, 6, 7, 12] (fun c _ _ i wr => ∃ (k : Nat) (cc : Int) (Lk : List Int), k ≤ n ∧ i = .int .i64 k ∧ c = .int .u64 cc ∧ 0 ≤ cc ∧ cc ≤ 1000000000 ∧ MulAdd (limbs v) 1000000000 (gr : Int) k Lk cc ∧ Own wr B (.slice ao n cap) Lk ∧ Below B w wr ∧ B ≤ wr.heap.size)
    (fun _ _ _ i _ => n - (intOf i).toNat)
  case atStart => exact ⟨0, _, _, Nat.zero_le _, rfl, rfl, HM0.out.c0, HM0.out.c1, HM0.out, hown, Below.refl _ _, hB⟩
  case round =>
    obtain ⟨k, cc, Lk, hk, rfl, rfl, hc0, hc1, hA, hk1, ho, hBs⟩ := hrel
    by_cases hlt : k < n
    · obtain ⟨g, T, rfl, hgB, hu, -, hcap⟩ := hk1.form (by intro h; have := hA.len; rw [h, HN.out] at this; simp at this; omega)
      have hlk : Lk.length = n := by rw [hA.len, HN.out]
      have c1 := hu.cell k (by omega)
      have c2 := hu.frozen k
      rw [hA.at] at c1
      have hxr := (Wf.limbs v).getD k
      obtain ⟨x, hx⟩ : ∃ x, (limbs v).getD k 0 = x := ⟨_, rfl⟩
      rw [hx] at c1 hxr
      have st := hA.step (by omega) (Wf.limbs v) (by rw [HN.out]; exact hlt) hx
      have ST := Lib.hid st
      have OW := Lib.hid (fun y => hk1.setCell k y)
      obtain ⟨x0, x1⟩ := hxr
      clear hA hk1 hx hu st hlk
      have hps : IntKind.u64.wrap (x * 1000000000) = x * 1000000000 := by rw [IntKind.wrap_u64]; omega
      have hss : IntKind.u64.wrap (cc + x * 1000000000) = cc + x * 1000000000 := by rw [IntKind.wrap_u64]; omega
      go_wp2
      go_roundw
      case rel =>
        exact ⟨k + 1, _, _, by omega, by go_num, rfl, ST.out.c0, ST.out.c1, ST.out, OW.out _, ho.setCell hgB _, by simpa [World.setCell] using hBs⟩
      case measure => simp [intOf] <;> omega
    · obtain rfl : k = n := by omega
      have hcl : cc < 4294967296 := by omega
      have HA := Lib.hid ((show MulAdd (limbs v) ((1000000000 : Nat) : Int) (gr : Int) (limbs v).length Lk cc by rw [HN.out]; exact hA).norm (by omega) hcl)
      have hlk : Lk.length = k := by rw [hA.len, HN.out]
      clear hA
      by_cases hp : 0 < cc
      · have hcw : IntKind.u32.wrap cc = cc := by rw [IntKind.wrap_u32]; omega
        have HL := Lib.hid (show Lk.length ≤ 1099511627776 by omega)
        have HE := Lib.hid (show Lk ++ [cc] = limbs (v * 1000000000 + gr) by have h := HA.out; rw [if_pos hp] at h; exact h)
        clear hlk
        go_wp2_with (at_builtin; refine wpList_append_u32 _ rfl (.tmp 32) (.tmp 35) rfl B _ Lk cc rfl rfl hk1 hBs HL.out ?_)
        intro v' w2 hown2 hB2
        have HO2 := Lib.hid hown2
        clear hown2 hk1
        go_wp2
        go_ret
        exact ⟨v', rfl, by rw [← HE.out]; exact HO2.out, ho.trans hB2⟩
      · have HE : Lk = limbs (v * 1000000000 + gr) := by have h := HA.out; rw [if_neg hp] at h; exact h
        go_wp2
        go_ret
        exact ⟨_, rfl, by rw [← HE]; exact hk1, ho⟩
end Go.Proofs.YtkomhemjodbkpaaDoor
