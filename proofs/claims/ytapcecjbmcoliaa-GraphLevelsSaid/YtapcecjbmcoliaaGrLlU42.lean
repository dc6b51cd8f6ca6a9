import Derived.Test.YtapcecjbmcoliaaGrLlU41
import Derived.Test.YtapcecjbmcoliaaGrLlU33
namespace Go.Proofs.Ytapcecjbmcoliaa
open Go Go.RowKit

/-- a list of the call's own, and another behind it -/
theorem wpList_append_cat (w0 : World) {ops : Array Oper} {rest : List Oper} {o : Oper} {a : Act} {Q : Exit → Act → World → Prop} (hgd : o.guard = none) (s x : Operand)
    (ho : o.op = .call { callee := .builtin .append, args := #[s, x], argTypes := #[22, 22] })
    (B : Nat) (v : Value) (L : List Int) (ro : Option Addr) (m c : Nat) (l : List Int) (hs : a.eval s = v) (hx : a.eval x = .slice ro m c) (hv : OZ w0 B v L) (h : Ns w0 ro m c l) (hm : 0 < m) (hm6 : m ≤ 1000000) (hL : L.length ≤ 1000000) (hB : B ≤ w0.heap.size)
    (K : ∀ v' w', OZ w' B v' (L ++ l) → Below B w0 w' → wpList Try.prog ops Q rest (a.put o.dst v') w') :
    wpList Try.prog ops Q (o :: rest) a w0 := by
  obtain ⟨i0, hi, hz0, hz1, hz2⟩ := info_parts Try.infoInt
  obtain ⟨b, off, rfl, hc⟩ := h.cells hm
  have hl := h.len
  have hlt := fun k hk => World.ownsRow.lt hv k hk
  refine wpList_append_lies _ hgd s x 22 ho B 3 i0 (.int .i64 0) 1 8 Try.underlying22 hi hz0 hz1 hz2 rfl (by decide) v L.length _ hs hv ⟨b, off, none⟩ m c (l.map (Value.int .i64 ·)) hx (by rw [List.length_map, hl]; omega) (fun j u hj => ?_) ?_ hm (by unfold maxLen; omega) (by omega) hB w0.heap.size rfl ?_
  · have hj2 : j < m := by
      rw [List.getElem?_eq_some_iff] at hj
      obtain ⟨h1, _⟩ := hj
      rw [List.length_map] at h1
      omega
    rw [Addr.add_lit, hc j hj2, ← hj]
    simp [List.getD, show j < l.length by omega]
  · intro u hu
    obtain ⟨v, _, rfl⟩ := List.mem_map.1 hu
    rfl
  · intro g cap w' r1 r2 r3 r4
    refine K _ w' ?_ ?_
    · unfold OZ
      rw [List.length_append, List.map_append, hl]
      exact r1
    · refine (Below.refl B w0).grown r2 hB ?_
      intro k hk
      exact (hlt k hk).1

set_option maxRecDepth 100000 in
theorem grow_any (n : Nat) (w : World) (hn : n ≤ 1000000) :
    Calls Try.prog 73 #[.slice none 0 0, .int .i64 (n : Int)] w fun e w' => ∃ v, e = .returned v ∧ OZ w' w.heap.size v [] ∧ Ext w w' := by
  obtain ⟨i0, hi, hz0, hz1, hz2⟩ := info_parts Try.infoInt
  by_cases h0 : n = 0
  · subst h0
    refine (Any8.slices_Grow_room Try.growI none 0 0 0 w (Nat.le_refl _) (by omega) (by omega) (Nat.le_refl _)).mono ?_
    rintro e w' ⟨rfl, rfl⟩
    exact ⟨_, rfl, OZ.nil _ _, Ext.refl _⟩
  · refine (Any8.slices_Grow_grow Try.growI i0 (.int .i64 0) hi hz0 (by rw [hz1]; omega) none 0 0 n [] w (Nat.le_refl _) (by omega) (by rw [hz2]; omega) (by omega) (by simp) (fun _ => rfl) (fun a e => by cases e)).mono ?_
    rintro e w' ⟨rfl, rfl⟩
    refine ⟨_, rfl, ?_, ?_⟩
    · refine ⟨rfl, .inr ⟨w.heap.size, _, _, rfl, Nat.le_refl _, heap_alloc_new w.drew _, Nat.zero_le _, grownCap_le_maxLen _ _ _ _ (by unfold maxLen; omega), ?_, rfl⟩⟩
      have := grownCap_ge w (0 + n) 0 (Try.growI_ren.t 25)
      simp [size_zeroCells, Value.cells] at this ⊢
      omega
    · exact (Below.drew (Ext.refl w)).alloc (Nat.le_refl _) _

theorem flat_len_take {Ls : List (List Int)} {i : Nat} (h : i < Ls.length) : (Ls.take (i + 1)).flatten = (Ls.take i).flatten ++ Ls.getD i [] := by
  rw [List.take_succ_eq_append_getElem h, List.flatten_append]
  simp [List.getD, h]
theorem flat_le {Ls : List (List Int)} (i : Nat) : (Ls.take i).flatten.length ≤ Ls.flatten.length := by
  have := congrArg (fun x => (List.flatten x).length) (List.take_append_drop i Ls)
  simp only [List.flatten_append, List.length_append] at this
  omega

set_option maxRecDepth 100000 in
set_option maxHeartbeats 8000000 in
theorem concat_any (po : Option Addr) (p pc : Nat) (Ls : List (List Int)) (w : World) (h : Nss w po p pc Ls) (hne : ∀ i, i < p → 0 < (Ls.getD i []).length) (hp : p ≤ 1000000) (hs : Ls.flatten.length ≤ 1000000) :
    Calls Try.prog 47 #[.slice po p pc] w fun e w' => ∃ v, e = .returned v ∧ OZ w' w.heap.size v Ls.flatten ∧ Ext w w' := by
  have HLN := Lib.hid h.len
  have HH := Lib.hid h
  have HNE := Lib.hid hne
  have HFB := Lib.hid (show ∀ i, (Ls.take i).flatten.length ≤ 1000000 from fun i => Nat.le_trans (flat_le i) hs)
  obtain ⟨C, hCe⟩ : ∃ C, w.heap.size = C := ⟨_, rfl⟩
  have HC := Lib.hid hCe
  clear h hne hCe
  go_enter Try.func47, Try.ntmps47
  go_wp2
  go_loopw [3, 11] (fun sv iv wr => ∃ i : Nat, i ≤ p ∧ iv = .int .i64 (i : Int) ∧ sv = .int .i64 (((Ls.take i).flatten.length : Nat) : Int) ∧ w = wr) (fun _ iv _ => p - (intOf iv).toNat)
  case atStart => exact ⟨0, Nat.zero_le _, rfl, rfl, rfl⟩
  case round =>
    obtain ⟨i, hi, rfl, rfl, rfl⟩ := hrel
    by_cases hlt : i < p
    · have hii : (i : Int) < (p : Int) := by omega
      obtain ⟨b, off, rfl, hc⟩ := HH.out.rows (by omega)
      obtain ⟨ri, ci, k1, -⟩ := hc i hlt
      have hf := flat_len_take (Ls := Ls) (i := i) (by rw [HLN.out]; exact hlt)
      have hle := HFB.out (i + 1)
      have hfl := congrArg List.length hf
      rw [List.length_append] at hfl
      rw [hfl] at hle
      obtain ⟨m, hm⟩ : ∃ m, (Ls.getD i []).length = m := ⟨_, rfl⟩
      obtain ⟨s, hsum⟩ : ∃ s, (Ls.take i).flatten.length = s := ⟨_, rfl⟩
      rw [hm] at k1 hfl hle
      rw [hsum] at hfl hle ⊢
      have hw1 : IntKind.i64.wrap ((s : Int) + (m : Int)) = ((s + m : Nat) : Int) := by rw [IntWalk.i64_in _ (by omega)]; simp
      have hng : ¬ ((s + m : Nat) : Int) < 0 := by omega
      have HFL := Lib.hid hfl
      clear hc hf hfl hm hsum
      go_wp2
      go_roundw
      case rel => exact ⟨i + 1, by omega, by go_num, by rw [HFL.out]; go_num, trivial⟩
      case measure => simp [intOf] <;> omega
    · obtain rfl : p = i := by omega
      have hnn : ¬ (p : Int) < (p : Int) := by omega
      rw [List.take_of_length_le (by rw [HLN.out]; exact Nat.le_refl _)]
      have CG := Lib.hid (grow_any Ls.flatten.length w hs)
      generalize Ls.flatten.length = s at *
      rw [HC.out] at CG
      go_wp2_with fail
      refine CG.out.mono ?_
      rintro e w2 ⟨v, rfl, hoz, hE⟩
      have HO := Lib.hid hoz
      have HE := Lib.hid hE
      have HS := Lib.hid (show C ≤ w2.heap.size from by rw [← HC.out]; exact hE.size)
      clear hoz hE CG
      go_wp2
      go_loopw [6, 27] (fun lv iv wx => ∃ (i : Nat) (lw : Value), i ≤ p ∧ iv = .int .i64 (i : Int) ∧ lw = lv ∧ Hid (OZ wx C lw ((Ls.take i).flatten)) ∧ Hid (Ext w wx) ∧ C ≤ wx.heap.size) (fun _ iv _ => p - (intOf iv).toNat)
      case atStart => exact ⟨0, _, Nat.zero_le _, rfl, rfl, HO, HE, HS.out⟩
      case round =>
        clear HO HE HS
        rename World => wx
        obtain ⟨i, lw, hi, rfl, rfl, hO, hE, hCs⟩ := hrel
        by_cases hlt : i < p
        · have hii : (i : Int) < (p : Int) := by omega
          obtain ⟨b, off, rfl, hc⟩ := (HH.out.below hE.out).rows (by omega)
          obtain ⟨ri, ci, k1, hns⟩ := hc i hlt
          have hf := flat_len_take (Ls := Ls) (i := i) (by rw [HLN.out]; exact hlt)
          have hle := HFB.out (i + 1)
          have hfl := congrArg List.length hf
          rw [List.length_append] at hfl
          rw [hfl] at hle
          have hm0 := HNE.out i hlt
          have HF := Lib.hid hf
          obtain ⟨l, hl⟩ : ∃ l, Ls.getD i [] = l := ⟨_, rfl⟩
          rw [hl] at k1 hns hle hm0 HF
          obtain ⟨m, hm⟩ : ∃ m, l.length = m := ⟨_, rfl⟩
          rw [hm] at k1 hns hle hm0
          have hO1 := hO.out
          have hm6 : m ≤ 1000000 := by omega
          have hL6 : ((Ls.take i).flatten).length ≤ 1000000 := by omega
          clear hc hf hfl hl hm hO
          go_wp2_with (at_builtin; refine wpList_append_cat _ rfl (.tmp 31) (.tmp 32) rfl C _ _ _ _ _ l rfl rfl hO1 hns hm0 hm6 hL6 hCs ?_)
          intro lv' w3 hO2 hB2
          rw [← HF.out] at hO2
          have RO := Lib.hid hO2
          have RE := Lib.hid (Below.trans hE.out (hB2.mono (Nat.le_of_eq HC.out)))
          have RC := Nat.le_trans hCs hB2.size
          clear hO2 hB2 hO1 hns k1
          go_wp2
          go_roundw
          case rel => exact ⟨i + 1, _, by omega, by go_num, rfl, RO, RE, RC⟩
          case measure => simp [intOf] <;> omega
        · obtain rfl : p = i := by omega
          have hnn : ¬ (p : Int) < (p : Int) := by omega
          rw [List.take_of_length_le (by rw [HLN.out]; exact Nat.le_refl _)] at hO
          go_wp2
          go_ret
          exact ⟨_, rfl, by rw [HC.out]; exact hO.out, hE.out⟩
end Go.Proofs.Ytapcecjbmcoliaa
