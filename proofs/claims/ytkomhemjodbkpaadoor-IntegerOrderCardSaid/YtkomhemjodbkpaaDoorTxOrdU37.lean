import Derived.Lib.ConvBytes
import Derived.Lib.AtoiErrMem
import Derived.Test.YtkomhemjodbkpaaDoorTxOrdU36
namespace Go.Proofs.YtkomhemjodbkpaaDoor
open Go Go.RowKit

/-- make([]uint32, 0, c) -/
theorem wpList_make_cap (w : World) {ops : Array Oper} {rest : List Oper} {o : Oper} {a : Act} {Q : Exit → Act → World → Prop} (hg : o.guard = none) (l c : Operand) (hop : o.op = Op.makeSlice 22 l c) (C : Int) (n : Nat)
    (hl : a.eval l = .int .i64 0) (hc : a.eval c = .int .i64 C) (hC : C = (n : Int)) (hn : n ≤ 1000000)
    (hK : ∀ w', Own w' w.heap.size (.slice (some ⟨w.heap.size, 0, none⟩) 0 n) [] → Below w.heap.size w w' → wpList Tryd.prog ops Q rest (a.put o.dst (.slice (some ⟨w.heap.size, 0, none⟩) 0 n)) w') :
    wpList Tryd.prog ops Q (o :: rest) a w := by
  obtain ⟨i0, hi, hz0, hz1, hz2⟩ := info_parts Tryd.infoU32
  refine wpList_make_own w hg l c 22 hop w.heap.size 47 i0 (.int .u32 0) 1 Tryd.underlying22 hi hz0 hz1 _ _ C n hl hc hC (by rw [hz2]; omega) (by unfold maxLen; omega) (Nat.le_refl _) ?_
  intro w' ho hgr
  exact hK w' ho ((Below.refl _ w).grown hgr (Nat.le_refl _) (fun k hk => by cases hk))

def strLen : Value → Nat | .string t => t.size | _ => 0
theorem Own.below_of {w w' : World} {B : Nat} {v : Value} {L : List Int} (h : Own w B v L) (hb : Below w.heap.size w w') : Own w' B v L := by
  obtain ⟨h1, h2⟩ := h
  refine ⟨h1, ?_⟩
  rcases h2 with h2 | ⟨g, cap, cur, hv, hbb, hg, r⟩
  · exact .inl h2
  · exact .inr ⟨g, cap, cur, hv, hbb, by rw [hb.block g (Array.getElem?_eq_some_iff.1 hg).1]; exact hg, r⟩
theorem horn_digit {c : UInt8} (h : isDig c = true) : ∃ d : Nat, d < 10 ∧ c.toNat = 48 + d := by
  unfold isDig at h
  simp only [Bool.and_eq_true, decide_eq_true_eq] at h
  exact ⟨c.toNat - 48, by omega, by omega⟩
theorem horn_lt (l : List UInt8) (h : ∀ c ∈ l, isDig c = true) : hornD 0 l < 10 ^ l.length := by
  induction l with
  | nil => simp [hornD]
  | cons c l ih =>
    obtain ⟨d, h1, h2⟩ := horn_digit (h c (by simp))
    have := ih (fun x hx => h x (by simp [hx]))
    rw [hornD_cons, hornD_from, h2, List.length_cons, Nat.pow_succ]
    have hm : d * 10 ^ l.length ≤ 9 * 10 ^ l.length := Nat.mul_le_mul_right _ (by omega)
    rw [show 0 * 10 + (48 + d - 48) = d by omega]
    omega
/-- as many limbs as digits suffice -/
theorem horn_limbs (l : List UInt8) (h : ∀ c ∈ l, isDig c = true) : (limbs (hornD 0 l)).length ≤ l.length := by
  rw [limbs_len_le]
  exact Nat.lt_of_lt_of_le (horn_lt l h) (Nat.pow_le_pow_left (by omega) _)

set_option maxRecDepth 100000 in
set_option maxHeartbeats 4000000 in
theorem value_any (s : ByteArray) (hs : s.size ≤ 100000) (hd : ∀ c ∈ s.data.toList, isDig c = true) (w : World) :
    Calls Tryd.prog 23 #[.string s] w fun e w' => ∃ v, e = .returned v ∧ Own w' w.heap.size v (limbs (hornD 0 s.data.toList)) ∧ Below w.heap.size w w' := by
  have HL := Lib.hid (Lib.size_eq s)
  have HD := Lib.hid hd
  clear hd
  go_enter Tryd.func23, Tryd.ntmps23
  have hq : IntKind.i64.wrap ((s.size : Int).tdiv 9) = ((s.size / 9 : Nat) : Int) := by
    rw [IntKind.wrap_i64, Int.tdiv_eq_ediv_of_nonneg (by omega)]; omega
  have hq2 : IntKind.i64.wrap (((s.size / 9 : Nat) : Int) + 2) = ((s.size / 9 + 2 : Nat) : Int) := by rw [IntKind.wrap_i64]; omega
  go_wp2_with (refine wpList_make_cap _ rfl _ _ rfl _ (s.size / 9 + 2) rfl rfl (by first | rfl | omega) (by omega) ?_)
  intro w1 hown hw1
  have hz1 := hw1.size
  clear hq hq2
  generalize hB : w.heap.size = B at *
  have HBE := Lib.hid hB
  clear hB
  go_wp2
  go_loopw [0, 3, 4, 5, 7, 26] (fun dv m _ _ _ _ wr => ∃ (t : ByteArray) (p : List UInt8), dv = .string t ∧ t.size ≤ s.size ∧ Hid (s.data.toList = p ++ t.data.toList) ∧ Hid (p = [] ∨ t.size % 9 = 0) ∧ Own wr B m (limbs (hornD 0 p)) ∧ Below B w wr ∧ B ≤ wr.heap.size)
    (fun dv _ _ _ _ _ _ => strLen dv)
  case atStart => exact ⟨s, [], rfl, Nat.le_refl _, rfl, Or.inl rfl, by rw [hornD_nil, limbs_zero]; exact hown, hw1, hz1⟩
  case round =>
    obtain ⟨t, p, rfl, ht, hp, hp9, hown, hE, hBs⟩ := hrel
    by_cases hlt : 0 < t.size
    · obtain ⟨n, hn⟩ : ∃ n, (t.size - 1) % 9 + 1 = n := ⟨_, rfl⟩
      have hn1 : 1 ≤ n ∧ n ≤ 9 ∧ n ≤ t.size ∧ (t.size - n) % 9 = 0 := by omega
      obtain ⟨hn1, hn9, hnt, hrest⟩ := hn1
      have hs1 : IntKind.i64.wrap ((t.size : Int) - 1) = ((t.size - 1 : Nat) : Int) := by rw [IntKind.wrap_i64]; omega
      have hs3 : ((t.size - 1 : Nat) : Int) % 9 + 1 = (n : Int) := by omega
      have hgt : (0 : Int) < (t.size : Int) := by omega
      have e1 : (t.extract 0 n).data.toList = t.data.toList.take n := by rw [Lib.extract_data, List.drop_zero, Nat.sub_zero]
      have e2 : (t.extract n t.size).data.toList = t.data.toList.drop n := by
        rw [Lib.extract_data, List.take_of_length_le (by rw [List.length_drop, ← Lib.size_eq]; exact Nat.le_refl _)]
      have z1 : (t.extract 0 n).size = n := by rw [Lib.size_eq, e1, List.length_take, ← Lib.size_eq]; omega
      have z2 : (t.extract n t.size).size = t.size - n := by rw [Lib.size_eq, e2, List.length_drop, ← Lib.size_eq]
      obtain ⟨t1, hx1⟩ : ∃ x, t.extract 0 n = x := ⟨_, rfl⟩
      obtain ⟨t2, hx2⟩ : ∃ x, t.extract n t.size = x := ⟨_, rfl⟩
      rw [hx1] at e1 z1
      rw [hx2] at e2 z2
      have E12 := Lib.hid (show t.data.toList = t1.data.toList ++ t2.data.toList by rw [e1, e2, List.take_append_drop])
      have HN := Lib.hid hn
      have HT1 := Lib.hid (show ∀ c ∈ t1.data.toList, isDig c = true from fun c hc => HD.out c (by rw [hp, E12.out]; simp [hc]))
      have HZ1 := Lib.hid z1
      have hz2' : t2.size < t.size := by omega
      have HZ2 := Lib.hid z2
      have HR9 := Lib.hid hrest
      have hl1 := Lib.hid (Lib.size_eq t1)
      clear e1 e2 hn z2 hrest
      have hcv := Lib.run_convert_string_bytes (P := Tryd.prog) wr 9 52 5 t1 (u := .string) Tryd.underlying9 Tryd.underlying52 Tryd.underlying5
      have hBW : ∀ j, j < n → (Lib.bytesWorld wr 5 t1).cell? ⟨wr.heap.size, j, none⟩ = some (.int .u8 (t1.data.toList.getD j 0).toNat) := fun j hj => Lib.bytesWorld_cell wr 5 t1 j (by omega)
      have hbw := Lib.bytesWorld_below wr 5 t1
      obtain ⟨W1, hW1⟩ : ∃ W1, W1 = Lib.bytesWorld wr 5 t1 := ⟨_, rfl⟩
      rw [← hW1] at hcv hBW hbw
      rw [z1] at hcv
      have HBW := Lib.hid hBW
      have hown1 := hown.below_of hbw
      have hE1 := hE.trans (hbw.mono hBs)
      have hBs1 : B ≤ W1.heap.size := Nat.le_trans hBs hbw.size
      generalize wr.heap.size = D at *
      clear hW1 hBW hbw hown hE hBs z1
      go_wp2
      go_loopw [5, 7, 26] (fun g _ i wx => ∃ k : Nat, k ≤ n ∧ i = .int .i64 k ∧ g = .int .u32 ((hornD 0 (t1.data.toList.take k) : Nat) : Int) ∧ W1 = wx) (fun _ _ i _ => n - (intOf i).toNat)
      case atStart => exact ⟨0, Nat.zero_le _, rfl, by rw [List.take_zero, hornD_nil]; rfl, rfl⟩
      case round =>
        obtain ⟨k, hk, rfl, rfl, rfl⟩ := hrel
        by_cases hkn : k < n
        · have c1 := HBW.out k hkn
          obtain ⟨d, hd1, hd2⟩ := horn_digit (HT1.out _ (getD_mem (k := k) (by rw [← hl1.out, HZ1.out]; exact hkn)))
          rw [hd2] at c1
          have hh : hornD 0 (t1.data.toList.take (k + 1)) = hornD 0 (t1.data.toList.take k) * 10 + d := by
            have hk' : k < t1.data.toList.length := by rw [← hl1.out, HZ1.out]; exact hkn
            have hd2' := hd2
            rw [List.getD, List.getElem?_eq_getElem hk'] at hd2'
            rw [List.take_succ_eq_append_getElem hk', hornD_append, hornD_cons, hornD_nil]
            have : (t1.data.toList[k]).toNat = 48 + d := hd2'
            omega
          have hlt9 : hornD 0 (t1.data.toList.take k) < 10 ^ k := by
            have := horn_lt (t1.data.toList.take k) (fun c hc => HT1.out c (List.mem_of_mem_take hc))
            rw [List.length_take, ← hl1.out, HZ1.out, Nat.min_eq_left (by omega)] at this
            exact this
          have h8 : 10 ^ k ≤ 10 ^ 8 := Nat.pow_le_pow_right (by omega) (by omega)
          obtain ⟨G, hG⟩ : ∃ G, hornD 0 (t1.data.toList.take k) = G := ⟨_, rfl⟩
          rw [hG] at hh hlt9 ⊢
          have hGb : G < 100000000 := by omega
          have HH := Lib.hid hh
          clear hh hG hlt9 h8 hd2
          have w1 : IntKind.u32.wrap ((G : Int) * 10) = ((G * 10 : Nat) : Int) := by rw [IntKind.wrap_u32]; omega
          have w2 : IntKind.u8.wrap (((48 + d : Nat) : Int) - 48) = (d : Int) := by rw [IntKind.wrap_u8]; omega
          have w3 : IntKind.u32.wrap (d : Int) = (d : Int) := by rw [IntKind.wrap_u32]; omega
          have w4 : IntKind.u32.wrap (((G * 10 : Nat) : Int) + (d : Int)) = ((G * 10 + d : Nat) : Int) := by rw [IntKind.wrap_u32]; omega
          go_wp2
          go_roundw
          case rel => exact ⟨k + 1, by omega, by go_num, by rw [HH.out]; exact congrArg (Value.int IntKind.u32) (by omega), by first | rfl | trivial⟩
          case measure => simp [intOf] <;> omega
        · obtain rfl : k = n := by omega
          obtain ⟨gr, hgr⟩ : ∃ gr, hornD 0 (t1.data.toList.take k) = gr := ⟨_, rfl⟩
          have e3 : t1.data.toList.take k = t1.data.toList := List.take_of_length_le (by rw [← hl1.out, HZ1.out]; exact Nat.le_refl _)
          rw [hgr]
          rw [e3] at hgr
          have hg9 : gr < 1000000000 := by
            have := horn_lt _ HT1.out
            rw [hgr, ← hl1.out, HZ1.out] at this
            have h9 : 10 ^ k ≤ 10 ^ 9 := Nat.pow_le_pow_right (by omega) hn9
            omega
          have hvl : (limbs (hornD 0 p)).length ≤ 1000000 := by
            have h1 := horn_limbs p (fun c hc => HD.out c (by rw [hp]; simp [hc]))
            have h2 : p.length ≤ s.size := by rw [HL.out, hp, List.length_append]; omega
            omega
          have AG := Lib.hid (appendGroup_any (hornD 0 p) gr B _ W1 hown1 hBs1 hg9 hvl)
          have HGR := Lib.hid hgr
          clear e3 hgr
          go_wp2_with fail
          refine AG.out.mono ?_
          rintro e w3 ⟨v', rfl, ho3, hB3⟩
          have HO := Lib.hid (show Own w3 B v' (limbs (hornD 0 (p ++ t1.data.toList))) by
            have e4 : hornD 0 (p ++ t1.data.toList) = hornD 0 p * 1000000000 + gr := by
              rw [hornD_append, hornD_from, HGR.out, ← hl1.out, HZ1.out]
              rcases hp9 with rfl | h9
              · rw [hornD_nil, Nat.zero_mul, Nat.zero_mul]
              · have : k = 9 := by have := HN.out; omega
                rw [this]
            rw [e4]; exact ho3)
          have hB3s := hB3.size
          clear ho3
          go_wp2
          go_roundw
          case rel =>
            refine ⟨t2, p ++ t1.data.toList, rfl, by omega, ?_, Or.inr (by rw [HZ2.out]; exact HR9.out), HO.out, hE1.trans hB3, by omega⟩
            show s.data.toList = _
            rw [hp, E12.out, List.append_assoc]
          case measure => simp only [strLen]; exact hz2'
    · have h0 : t.size = 0 := by omega
      have e0 : t.data.toList = [] := List.eq_nil_of_length_eq_zero (by rw [← Lib.size_eq]; exact h0)
      have HE0 := Lib.hid (show s.data.toList = p by have h := hp; rw [e0, List.append_nil] at h; exact h)
      have hn0 : ¬ (0 : Int) < (t.size : Int) := by omega
      clear e0
      go_wp2
      go_ret
      rw [HBE.out]
      exact ⟨_, rfl, by rw [HE0.out]; exact hown, hE⟩
end Go.Proofs.YtkomhemjodbkpaaDoor
