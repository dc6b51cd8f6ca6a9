import Derived.Test.YtapcecjbmcoliaaGreatDoorACauU2
import Derived.Laws.AppendOwn
import Derived.OwnWalk
import Derived.Test.YtapcecjbmcoliaaGreatDoorACauU17
import Derived.Test.YtapcecjbmcoliaaGreatDoorACauU5
import Derived.Test.YtapcecjbmcoliaaGreatDoorACauU11
namespace Go.Proofs.YtapcecjbmcoliaaGreatDoor
open Go Go.RowKit

/-- the value v holds the limbs L in memory of the call's own, in blocks from B on -/
def Own (w : World) (B : Nat) (v : Value) (L : List Int) : Prop := w.ownsRow B 47 1 v L.length (L.map (Value.int .u32))

theorem Own.nil (w : World) (B : Nat) : Own w B (.slice none 0 0) [] := ⟨rfl, Or.inl ⟨rfl, rfl⟩⟩

theorem Own.sl {w : World} {B : Nat} {v : Value} {L : List Int} (h : Own w B v L) (hw : Wf L) (hn : L.length ≤ 1099511627776) : ∃ ao cap, v = .slice ao L.length cap ∧ Sl w ao L.length cap L := by
  have h' := h
  obtain ⟨h1, h2⟩ := h
  rcases h2 with ⟨hv, h0⟩ | ⟨g, cap, cur, hv, hb, hg, hc, hm, hs, ht⟩
  · have hL : L = [] := List.eq_nil_of_length_eq_zero h0
    subst hL
    exact ⟨none, 0, hv, Sl.nil w⟩
  · refine ⟨some ⟨g, 0, none⟩, cap, hv, rfl, hc, hn, hw, fun h0 => ⟨g, 0, rfl, fun j hj => ?_⟩⟩
    subst hv
    have := h'.cellAt j (by omega)
    rw [Nat.zero_add, this, List.getElem?_map, List.getElem?_eq_getElem hj, ← getD_at hj]
    rfl

theorem Own.mono {w : World} {B C : Nat} {v : Value} {L : List Int} (h : Own w B v L) (hC : C ≤ B) : Own w C v L :=
  ⟨h.1, h.2.imp id fun ⟨g, cap, cur, hv, hb, r⟩ => ⟨g, cap, cur, hv, Nat.le_trans hC hb, r⟩⟩

/-- 'append(out, x)' -/
theorem wpList_append_u32 (w0 : World) {ops : Array Oper} {rest : List Oper} {o : Oper} {a : Act} {Q : Exit → Act → World → Prop} (hgd : o.guard = none) (s x : Operand)
    (ho : o.op = .call { callee := .builtin .append, args := #[s, x], argTypes := #[25, 25] })
    (B : Nat) (v : Value) (L : List Int) (y : Int) (hs : a.eval s = v) (hx : a.eval x = .slice (some ⟨w0.heap.size, 0, none⟩) 1 1) (hown : Own w0 B v L) (hB : B ≤ w0.heap.size) (hL : L.length ≤ 1099511627776)
    (h : ∀ v' w', Own w' B v' (L ++ [y]) → Below B w0 w' → wpList Tryz.prog ops Q rest (a.put o.dst v') w') : wpList Tryz.prog ops Q (o :: rest) a (w0.alloc (.cells #[.int .u32 y] 47)) := by
  obtain ⟨i0, hi, hz0, hz1, hz2⟩ := info_parts Tryz.infoU32
  refine wpList_append_own _ hgd s x 25 ho B 47 i0 (.int .u32 0) 1 4 Tryz.underlying25 hi hz0 hz1 hz2 rfl (by decide) v L.length (L.map (Value.int .u32)) hs (World.ownsRow.alloc hown _) ⟨w0.heap.size, 0, none⟩ 1 1 [.int .u32 y] hx rfl ?_ ?_ ?_ ?_ ?_ ?_
  · intro j u hj
    have hn : (w0.alloc (.cells #[.int .u32 y] 47)).heap[w0.heap.size]? = some (.cells #[.int .u32 y] 47 (0, 0)) := heap_alloc_new w0 _
    rcases j with _ | j
    · rw [Addr.add_lit, Nat.zero_add, cell_of_row _ w0.heap.size 0 _ _ _ hn]; exact hj
    · simp at hj
  · intro u hu
    rw [List.mem_singleton] at hu
    subst hu
    rfl
  · unfold maxLen; omega
  · omega
  · simp; omega
  · intro v' w' hown' hg _
    refine h v' w' ?_ ?_
    · unfold Own
      rw [List.length_append, List.map_append]
      exact hown'
    · refine ((Below.refl B w0).alloc hB _).grown hg (by simp; omega) ?_
      intro k hk
      exact (hown.lt k hk).1
end Go.Proofs.YtapcecjbmcoliaaGreatDoor

namespace Go.Proofs.YtapcecjbmcoliaaGreatDoor
open Go.RowKit

set_option maxRecDepth 100000 in
set_option maxHeartbeats 2000000 in
theorem refTrim_any (ao : Option Addr) (n cap : Nat) (zs : List Int) (w : World) (h : Sl w ao n cap zs) :
    Calls Tryz.prog 109 #[.slice ao n cap] w fun e w' => ∃ ro k rc, e = .returned (.slice ro k rc) ∧ Sl w' ro k rc (limbs (num zs).toNat) ∧ k ≤ n ∧ Below w.heap.size w w' := by
  have hln := h.len
  have HL := Lib.hid hln; clear hln
  have hbig := h.big
  have fin : ∀ t, tlen zs n = t → t ≤ n ∧ zs.take t = limbs (num zs).toNat := by
    rintro t rfl
    have e := take_tlen h.wf n (by rw [HL.out]; exact Nat.le_refl _)
    rw [List.take_of_length_le (i := n) (by rw [HL.out]; exact Nat.le_refl _)] at e
    exact ⟨tlen_le _ _, e⟩
  have FIN0 := Lib.hid fin; clear fin
  go_enter Tryz.func109, Tryz.ntmps109
  go_wp2
  go_loop [3] (fun i => ∃ k : Nat, k ≤ n ∧ i = .int .i64 k ∧ tlen zs n = tlen zs k) (fun i => (intOf i).toNat)
  case atStart => exact ⟨n, Nat.le_refl _, rfl, rfl⟩
  case round =>
    obtain ⟨k, hk, rfl, ht⟩ := hrel
    have HT := Lib.hid ht; clear ht
    by_cases h0 : 0 < k
    · obtain ⟨m, rfl⟩ : ∃ m, k = m + 1 := ⟨k - 1, by omega⟩
      obtain ⟨b, off, e0, hc⟩ := h.cells (by rw [HL.out]; omega)
      have hcell := hc m (by rw [HL.out]; omega)
      clear hc
      subst e0
      go_wp2
      · have h1 : (zs[m]?.getD 0 == 0) = true := by assumption
        go_round
        case rel => exact ⟨m, by omega, by go_num, by rw [HT.out, tlen, if_pos (by simpa [List.getD] using h1)]⟩
        case measure => simp [intOf]
      · have h1 : (zs[m]?.getD 0 == 0) = false := by assumption
        have hfin := FIN0.out (m + 1) (by rw [HT.out, tlen, if_neg (by simpa [List.getD] using h1)])
        clear h1 hcell
        have FIN := Lib.hid hfin
        have hj' := hfin.1
        clear hfin
        have hlen := HL.out
        have hB0 := Below.refl w.heap.size w
        generalize hBe : w.heap.size = B at *
        have HB := Lib.hid hBe; clear hBe
        go_wp2
        go_loopw [4, 5] (fun v i wr => ∃ j : Nat, j ≤ (m + 1) ∧ i = .int .i64 j ∧ Own wr B v (zs.take j) ∧ Below B w wr) (fun _ i _ => (m + 1) - (intOf i).toNat)
        case atStart => exact ⟨0, Nat.zero_le _, rfl, Own.nil _ _, hB0⟩
        case round =>
          obtain ⟨j, hj, rfl, hown, hB⟩ := hrel
          by_cases hlt : j < (m + 1)
          · obtain ⟨b2, off2, e2, hc⟩ := (h.below (by rw [HB.out]; exact hB)).cells (by omega)
            cases e2
            have hcell := hc j (by omega)
            clear hc
            have hsz : B ≤ wr.heap.size := by have := hB.size; have := HB.out; omega
            have htl : (zs.take j).length ≤ 1099511627776 := by rw [List.length_take]; omega
            have HSZ := Lib.hid hsz; clear hsz
            have HTL := Lib.hid htl; clear htl
            go_wp2_with (at_builtin; refine wpList_append_u32 _ rfl (.tmp 25) (.tmp 30) rfl B _ (zs.take j) _ rfl rfl hown HSZ.out HTL.out ?_)
            intro v' w1 hown' hB1
            go_wp2
            go_roundw
            case rel =>
              refine ⟨j + 1, by omega, by go_num, ?_, hB.trans hB1⟩
              rw [take_succ_getD _ _ (by omega)]
              exact hown'
            case measure => simp [intOf] <;> omega
          · obtain rfl : j = (m + 1) := by omega
            have e1 : (zs.take (m + 1)).length = m + 1 := by rw [List.length_take]; omega
            obtain ⟨ro, rc, rfl, hsl⟩ := hown.sl (h.wf.take _) (by omega)
            rw [e1] at hsl
            rw [FIN.out.2] at hsl
            go_wp2
            go_ret
            rw [e1]
            exact ⟨ro, m + 1, rc, rfl, hsl, hj', by rw [HB.out]; exact hB⟩
    · obtain rfl : k = 0 := by omega
      have hfin := FIN0.out 0 (by rw [HT.out]; rfl)
      have FIN := Lib.hid hfin
      have hj' := hfin.1
      clear hfin
      have hlen := HL.out
      have hB0 := Below.refl w.heap.size w
      generalize hBe : w.heap.size = B at *
      have HB := Lib.hid hBe; clear hBe
      go_wp2
      go_loopw [4, 5] (fun v i wr => ∃ j : Nat, j ≤ 0 ∧ i = .int .i64 j ∧ Own wr B v (zs.take j) ∧ Below B w wr) (fun _ i _ => 0 - (intOf i).toNat)
      case atStart => exact ⟨0, Nat.zero_le _, rfl, Own.nil _ _, hB0⟩
      case round =>
        obtain ⟨j, hj, rfl, hown, hB⟩ := hrel
        by_cases hlt : j < 0
        · omega
        · obtain rfl : j = 0 := by omega
          have e1 : (zs.take 0).length = 0 := by rw [List.length_take]; omega
          obtain ⟨ro, rc, rfl, hsl⟩ := hown.sl (h.wf.take _) (by omega)
          rw [e1] at hsl
          rw [FIN.out.2] at hsl
          go_wp2
          go_ret
          exact ⟨ro, 0, rc, rfl, hsl, hj', by rw [HB.out]; exact hB⟩
end Go.Proofs.YtapcecjbmcoliaaGreatDoor

namespace Go.Proofs.YtapcecjbmcoliaaGreatDoor
open Go.RowKit

theorem box_new (w : World) (nb : Bool) (ao : Option Addr) (n ca : Nat) :
    ∃ W, W = w.alloc (.cells #[.bool nb, .slice ao n ca] 27) ∧ Below w.heap.size w W ∧ Box W w.heap.size nb ao n ca ∧ w.heap.size + 1 ≤ W.heap.size :=
  ⟨_, rfl, (Below.refl _ w).alloc (Nat.le_refl _) _, Box.new w nb ao n ca, by simp⟩

theorem make1_val {nb nr : Bool} {zs : List Int} {w : World} {ro : Option Addr} {k rc : Nat} (hz : Wf zs) (hs : Sl w ro k rc (limbs (num zs).toNat)) (hr : nr = (nb && decide (0 < k))) : Bn w nr ro k rc (sgd nb zs) := by
  refine bn_of hs hr ?_
  rw [Int.toNat_of_nonneg (num_nonneg hz)]; rfl

set_option maxRecDepth 100000 in
set_option maxHeartbeats 1000000 in
theorem make1_any (nb : Bool) (ao : Option Addr) (n cap : Nat) (zs : List Int) (w : World) (h : Sl w ao n cap zs) :
    Calls Tryz.prog 90 #[.bool nb, .slice ao n cap] w fun e w' => ∃ nr ro k cr, e = .returned (.agg #[.bool nr, .slice ro k cr]) ∧ Bn w' nr ro k cr (sgd nb zs) ∧ k ≤ n ∧ Below w.heap.size w w' := by
  go_enter Tryz.func90, Tryz.ntmps90
  go_wp2_with fail
  obtain ⟨W, hW, hB, hbx, hsz⟩ := box_new w false none 0 0
  rw [← hW]
  clear hW
  have hs0 := h.below hB
  generalize hBe : w.heap.size = B at *
  have HBe := Lib.hid hBe; clear hBe
  refine (refTrim_any ao n cap zs W hs0).mono ?_
  rintro e w1 ⟨ro, k, rc, rfl, hs1, hk, hw1⟩
  have b1 := hbx.below hw1
  obtain ⟨h1, z1⟩ := bnext hB (by omega) hw1
  have q0 := b1.c0
  have q1 := b1.c1
  have q2 := b1.f 0
  have q3 := b1.f 1
  have hst := b1.stored (nb && decide (0 < k)) ro k rc
  have u0 := hst.c0
  have u1 := hst.c1
  have hres := make1_val (nb := nb) h.wf (hs1.only_box b1 (only_set2 w1 B (.bool (nb && decide (0 < k))) (.slice ro k rc))) rfl
  have hbl := h1.trans ((only_set2 w1 B (.bool (nb && decide (0 < k))) (.slice ro k rc)).below (Nat.le_refl _))
  have HRES := Lib.hid hres; clear hres
  cases nb
  · simp only [Bool.false_and] at u0 u1 HRES hbl
    go_wp2
    refine bodyPost_ret (v := .agg #[.bool false, .slice ro k rc]) (by simp [results, Tryz.results90, go_sem, u0, u1]) rfl ⟨_, ro, k, rc, rfl, HRES.out, hk, ?_⟩
    rw [HBe.out]; exact hbl
  · simp only [Bool.true_and] at u0 u1 HRES hbl
    go_wp2
    refine bodyPost_ret (v := .agg #[.bool (decide (0 < k)), .slice ro k rc]) (by simp [results, Tryz.results90, go_sem, u0, u1]) rfl ⟨_, ro, k, rc, rfl, HRES.out, hk, ?_⟩
    rw [HBe.out]; exact hbl

set_option maxRecDepth 100000 in
set_option maxHeartbeats 1000000 in
theorem refNorm_any (nb : Bool) (ao : Option Addr) (n cap : Nat) (x : Int) (w : World) (h : Bg w nb ao n cap x) :
    Calls Tryz.prog 83 #[.agg #[.bool nb, .slice ao n cap]] w fun e w' => ∃ nr ro k cr, e = .returned (.agg #[.bool nr, .slice ro k cr]) ∧ Bn w' nr ro k cr x ∧ k ≤ n ∧ Below w.heap.size w w' := by
  obtain ⟨⟨zs, hs, hx⟩, hsm⟩ := h
  subst hx
  go_enter Tryz.func83, Tryz.ntmps83
  go_wp2_with fail
  obtain ⟨W, hW, hB, hbx, hrx, hz⟩ := boxes1 w nb ao n cap
  rw [← hW]
  clear hW
  have hs0 := hs.below hB
  generalize hBe : w.heap.size = B at *
  have HBe := Lib.hid hBe; clear hBe
  have k0 := hbx.c0
  have k1 := hbx.c1
  go_wp2_with fail
  refine (make1_any nb ao n cap zs W hs0).mono ?_
  rintro e w1 ⟨nr, ro, k, rc, rfl, hs1, hk, hw1⟩
  have b1 := hrx.below hw1
  obtain ⟨h1, z1⟩ := bnext hB (by omega) hw1
  have q0 := b1.c0
  have q1 := b1.c1
  have q2 := b1.f 0
  have q3 := b1.f 1
  have hst := b1.stored nr ro k rc
  have u0 := hst.c0
  have u1 := hst.c1
  have hres : Bn ((w1.setCell ⟨B + 1, 0, none⟩ (.bool nr)).setCell ⟨B + 1, 1, none⟩ (.slice ro k rc)) nr ro k rc (sgd nb zs) := ⟨hs1.neg, hs1.sl.only_box b1 (only_set2 _ _ _ _)⟩
  have hbl := h1.trans ((only_set2 w1 (B + 1) (.bool nr) (.slice ro k rc)).below (Nat.le_succ B))
  have HRES := Lib.hid hres; clear hres
  go_wp2
  refine bodyPost_ret (v := .agg #[.bool nr, .slice ro k rc]) (by simp [results, Tryz.results83, go_sem, u0, u1]) rfl ⟨_, ro, k, rc, rfl, HRES.out, hk, ?_⟩
  rw [HBe.out]; exact hbl

set_option maxRecDepth 100000 in
set_option maxHeartbeats 1000000 in
theorem refSign_any (nb : Bool) (ao : Option Addr) (n cap : Nat) (x : Int) (w : World) (h : Bg w nb ao n cap x) :
    Calls Tryz.prog 58 #[.agg #[.bool nb, .slice ao n cap]] w fun e w' => e = .returned (.int .i64 (sgn3 x 0)) ∧ Below w.heap.size w w' := by
  go_enter Tryz.func58, Tryz.ntmps58
  go_wp2_with fail
  obtain ⟨W, hW, hB, hbx, hsz⟩ := box_new w nb ao n cap
  rw [← hW]
  clear hW
  have hs0 := h.below hB
  generalize hBe : w.heap.size = B at *
  have HBe := Lib.hid hBe; clear hBe
  have k0 := hbx.c0
  have k1 := hbx.c1
  go_wp2_with fail
  refine (refNorm_any nb ao n cap x W hs0).mono ?_
  rintro e w1 ⟨nr, ro, k, rc, rfl, hs1, hk, hw1⟩
  have b1 := hbx.below hw1
  obtain ⟨h1, z1⟩ := bnext hB (by omega) hw1
  have q0 := b1.c0
  have q1 := b1.c1
  have q2 := b1.f 0
  have q3 := b1.f 1
  have hst := b1.stored nr ro k rc
  have u0 := hst.c0
  have u1 := hst.c1
  have hbl := h1.trans ((only_set2 w1 B (.bool nr) (.slice ro k rc)).below (Nat.le_refl B))
  have hz := len_zero_iff hs1.sl.len
  have hneg := hs1.neg
  clear h hs0 hB hbx k0 k1 b1 h1 hst hsz
  have HN := Lib.hid hneg; clear hneg
  by_cases h0 : k = 0
  · have hx0 : x = 0 := by have := hz.1 h0; omega
    have HX := Lib.hid hx0
    subst h0
    clear hz hx0
    go_wp2
    go_ret
    exact ⟨by rw [HX.out]; rfl, by rw [HBe.out]; exact hbl⟩
  · have hk0 : ((k : Int) == 0) = false := beq_eq_false_iff_ne.2 (by omega)
    have hx0 : x ≠ 0 := by intro e; exact h0 (hz.2 (by omega))
    have HX := Lib.hid hx0
    clear hx0 h0 hz
    cases nr with
    | true =>
      have hlt : x < 0 := by have := HN.out; simpa using this.symm
      have e : sgn3 x 0 = -1 := by simp [sgn3]; omega
      have HE := Lib.hid e
      clear e hlt
      go_wp2
      go_ret
      exact ⟨by rw [HE.out]; rfl, by rw [HBe.out]; exact hbl⟩
    | false =>
      have hlt : ¬ x < 0 := by have := HN.out; simpa using this.symm
      have e : sgn3 x 0 = 1 := by have := HX.out; simp [sgn3]; omega
      have HE := Lib.hid e
      clear e hlt
      go_wp2
      go_ret
      exact ⟨by rw [HE.out]; rfl, by rw [HBe.out]; exact hbl⟩
end Go.Proofs.YtapcecjbmcoliaaGreatDoor

namespace Go.Proofs.YtapcecjbmcoliaaGreatDoor
open Go.RowKit

section
variable {W w : World} {L : List Ent} {u v : Value} {x y : Int} {N M : Nat} {c d : Bool}

end

theorem St.alloc {W w : World} {L : List Ent} (h : St W w L) (o : Obj) : St W (w.alloc o) L := h.step ((Below.refl _ w).alloc (Nat.le_refl _) o)

theorem Ent.Ok.only_box {w w' : World} {p : Ent} {g : Nat} {nb : Bool} {ao : Option Addr} {n ca : Nat} (h : p.Ok w) (hb : Box w g nb ao n ca) (ho : Only g w w') : p.Ok w' := by
  obtain ⟨nb, ao, n, ca, h1, ⟨⟨zs, h2, h2'⟩, h2''⟩, h3, h4, h5⟩ := h
  exact ⟨nb, ao, n, ca, h1, ⟨⟨zs, h2.only_box hb ho, h2'⟩, h2''⟩, h3, h4, fun e => ⟨(h5 e).neg, (h5 e).sl.only_box hb ho⟩⟩

/-- a variable of this call's own is written -/
theorem St.stored {W w : World} {L : List Ent} {g : Nat} {nb : Bool} {ao : Option Addr} {n ca : Nat} (h : St W w L) (hb : Box w g nb ao n ca) (hg : W.heap.size ≤ g) (mb : Bool) (bo : Option Addr) (m cb : Nat) :
    St W ((w.setCell ⟨g, 0, none⟩ (.bool mb)).setCell ⟨g, 1, none⟩ (.slice bo m cb)) L :=
  ⟨Below.trans h.ext ((only_set2 w g _ _).below hg), fun p hp => (h.bag p hp).only_box hb (only_set2 w g _ _)⟩

end Go.Proofs.YtapcecjbmcoliaaGreatDoor

namespace Go.Proofs.YtapcecjbmcoliaaGreatDoor
open Go.RowKit

/-- how many bits a number has -/
def blen (a : Nat) : Nat := if a = 0 then 0 else Nat.log2 a + 1

theorem blen_of {a k : Nat} (h0 : 2 ^ k ≤ a) (h1 : a < 2 ^ (k + 1)) : blen a = k + 1 := by
  have ha : a ≠ 0 := by have := Nat.pos_of_ne_zero (show 2 ^ k ≠ 0 by simp); omega
  unfold blen
  rw [if_neg ha, (Nat.log2_eq_iff ha).2 ⟨h0, h1⟩]

theorem blen_mul {a : Nat} (h : a ≠ 0) (k : Nat) : blen (a * 2 ^ k) = blen a + k := by
  have h1 := Nat.log2_self_le h
  have h2 := @Nat.lt_log2_self a
  have e : blen a = Nat.log2 a + 1 := by unfold blen; rw [if_neg h]
  have hp : 0 < 2 ^ k := Nat.pos_of_ne_zero (by simp)
  rw [e, blen_of (k := Nat.log2 a + k)]
  · omega
  · rw [Nat.pow_add]; exact Nat.mul_le_mul_right _ h1
  · rw [show Nat.log2 a + k + 1 = Nat.log2 a + 1 + k by omega, Nat.pow_add]; exact Nat.mul_lt_mul_of_pos_right h2 hp

theorem blen_top {a m : Nat} (hm : (limbs a).length = m + 1) : ((m : Int) * 32 + (Lib.bitLen ((limbs a).getD m 0).toNat : Int)) = (blen a : Int) := by
  have h1 : a < 4294967296 ^ (m + 1) := (limbs_len_le a (m + 1)).1 (by omega)
  have h2 : 4294967296 ^ m ≤ a := by
    rcases Nat.lt_or_ge a (4294967296 ^ m) with h | h
    · have := (limbs_len_le a m).2 h; omega
    · exact h
  have hpm : 0 < 4294967296 ^ m := Nat.pos_of_ne_zero (by simp)
  have hd1 : a / 4294967296 ^ m < 4294967296 := by
    rw [Nat.div_lt_iff_lt_mul hpm, Nat.mul_comm, ← Nat.pow_succ]; exact h1
  have hd0 : 0 < a / 4294967296 ^ m := Nat.div_pos h2 hpm
  have ht : (limbs a).getD m 0 = ((a / 4294967296 ^ m : Nat) : Int) := by
    rw [limbs_at, Nat.mod_eq_of_lt hd1]
  rw [ht, Int.toNat_natCast]
  have hdm := Nat.div_add_mod a (4294967296 ^ m)
  have hml := Nat.mod_lt a hpm
  generalize htt : a / 4294967296 ^ m = t at *
  generalize a % 4294967296 ^ m = r at *
  obtain ⟨l, e, l0, l1⟩ := bitLen_spec t (by omega) (by omega)
  have hp : (4294967296 : Nat) ^ m = 2 ^ (m * 32) := by rw [Nat.mul_comm, Nat.pow_mul]
  rw [e, blen_of (k := m * 32 + l)]
  · omega
  · rw [Nat.pow_add, ← hp]
    have := Nat.mul_le_mul_left (4294967296 ^ m) l0
    omega
  · rw [Nat.add_assoc, Nat.pow_add, ← hp]
    have := Nat.mul_le_mul_left (4294967296 ^ m) (show t + 1 ≤ 2 ^ (l + 1) from l1)
    rw [Nat.mul_add, Nat.mul_one] at this
    omega

theorem bitLen_32 {x : Nat} (h : x < 4294967296) : Lib.bitLen x ≤ 32 := by
  by_cases h0 : x = 0
  · rw [h0, bitLen_zero]; omega
  · obtain ⟨l, e, l0, _⟩ := bitLen_spec x h0 (by omega)
    rcases Nat.lt_or_ge l 32 with hl | hl
    · omega
    · have := Nat.pow_le_pow_right (show 0 < 2 by omega) hl
      omega

set_option maxRecDepth 100000 in
set_option maxHeartbeats 1000000 in
theorem bitLen_any (a : Nat) (ao : Option Addr) (n ca : Nat) (w : World) (h : Sl w ao n ca (limbs a)) (hn : n ≤ 1000000000) :
    Calls Tryz.prog 73 #[.slice ao n ca] w fun e w' => e = .returned (.int .i64 (blen a)) ∧ w = w' := by
  rcases n with _ | m
  · have h0 : a = 0 := limbs_inj ((List.eq_nil_of_length_eq_zero h.len).trans limbs_zero.symm)
    go_enter Tryz.func73, Tryz.ntmps73
    go_wp2
    go_ret
    exact ⟨by rw [h0]; rfl, rfl⟩
  · have hb := blen_top h.len
    obtain ⟨b, off, rfl, hc⟩ := h.cells (by rw [h.len]; omega)
    have c1 := hc m (by rw [h.len]; omega)
    clear hc
    have hxr := (Wf.limbs a).getD m
    obtain ⟨x, hx⟩ : ∃ x, (limbs a).getD m 0 = x := ⟨_, rfl⟩
    rw [hx] at c1 hxr hb
    obtain ⟨x0, x1⟩ := hxr
    clear hx
    have HB := Lib.hid hb; clear hb
    have em : ((m : Int) + 1 == 0) = false := by apply beq_eq_false_iff_ne.2; omega
    have hl : (Lib.bitLen x.toNat : Int) ≤ 32 := by
      have := bitLen_32 (x := x.toNat) (by omega)
      omega
    go_enter Tryz.func73, Tryz.ntmps73
    go_wp2_with fail
    refine (Tryz.bits_Len32 x w x0 (by omega)).mono ?_
    rintro e w2 ⟨rfl, rfl⟩
    go_wp2
    go_ret
    exact ⟨by rw [← HB.out]; rfl, rfl⟩
end Go.Proofs.YtapcecjbmcoliaaGreatDoor
