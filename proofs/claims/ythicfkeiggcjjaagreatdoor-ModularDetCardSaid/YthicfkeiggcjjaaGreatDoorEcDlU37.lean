import Derived.Test.YthicfkeiggcjjaaGreatDoorEcDlU21
import Derived.Test.YthicfkeiggcjjaaGreatDoorEcDlU9
import Derived.Test.YthicfkeiggcjjaaGreatDoorEcDlU18
import Derived.Test.YthicfkeiggcjjaaGreatDoorEcDlU15
import Derived.Maps.OwnOps
import Derived.Maps.OwnSet
import Derived.Maps.Views
namespace Go.Proofs.YthicfkeiggcjjaaGreatDoor
open Go Go.RowKit

theorem crtStep_is (X N r p z1 z2 z3 v k : Int) (h1 : r % p = z1) (h2 : X % p = z2) (h3 : (z1 - z2) % p = z3) (h4 : invZ (N % p) p = v) (h5 : z3 * v % p = k) : crtStep X N r p = X + N * k := by
  subst h1 h2 h3 h4 h5; rfl

theorem bg_ent {w : World} {nb : Bool} {ao : Option Addr} {n ca : Nat} {x : Int} (h : Bg w nb ao n ca x) (k : Nat) (hn : n ≤ k) (hk : k ≤ 100000) : Ent.Ok w ⟨.agg #[.bool nb, .slice ao n ca], x, k, false⟩ := by
  obtain ⟨⟨zs, hs, hx⟩, _⟩ := h
  rw [hx]
  exact ok_raw hs k hn hk
theorem residue_ext (a p : Int) (w : World) (h0 : 0 < p) (hp : p ≤ 2147483648) : Calls Tryz.prog 38 #[.int .i64 a, .int .i64 p] w fun e w' => e = .returned (.int .i64 (a % p)) ∧ Ext w w' :=
  (residue_any a p w h0 hp).mono fun _ _ ⟨h, hw⟩ => ⟨h, by rw [hw]; exact Ext.refl _⟩
theorem inverse_ext (a p : Int) (w : World) (h0 : 0 ≤ a) (h1 : a < p) (hp1 : 1 < p) (hp : p ≤ 2147483647) : Calls Tryz.prog 43 #[.int .i64 a, .int .i64 p] w fun e w' => e = .returned (.int .i64 (invZ a p)) ∧ Ext w w' :=
  (inverseZ a p w h0 h1 hp1 hp).mono fun _ _ ⟨h, hw⟩ => ⟨h, by rw [hw]; exact Ext.refl _⟩

set_option maxRecDepth 100000 in
set_option maxHeartbeats 8000000 in
theorem extend_any (xn nn : Bool) (xo no : Option Addr) (xk nk xc nc : Nat) (X N r p : Int) (w : World) (ha : Bg w xn xo xk xc X) (hb : Bg w nn no nk nc N) (hx90 : xk ≤ 90) (hn90 : nk ≤ 90) (hp1 : 1 < p) (hp : p ≤ 2147483647) :
    Calls Tryz.prog 46 #[.agg #[.bool xn, .slice xo xk xc], .agg #[.bool nn, .slice no nk nc], .int .i64 r, .int .i64 p] w fun e w' => ∃ rn ro rk rc, e = .returned (.agg #[.bool rn, .slice ro rk rc]) ∧ Bn w' rn ro rk rc (crtStep X N r p) ∧ Ext w w' := by
  have b10 := Int.emod_nonneg r (show p ≠ 0 by omega)
  have b11 := Int.emod_lt_of_pos r (show 0 < p by omega)
  have b20 := Int.emod_nonneg X (show p ≠ 0 by omega)
  have b21 := Int.emod_lt_of_pos X (show 0 < p by omega)
  have b40 := Int.emod_nonneg N (show p ≠ 0 by omega)
  have b41 := Int.emod_lt_of_pos N (show 0 < p by omega)
  obtain ⟨z1, h1⟩ : ∃ z1, r % p = z1 := ⟨_, rfl⟩
  obtain ⟨z2, h2⟩ : ∃ z2, X % p = z2 := ⟨_, rfl⟩
  obtain ⟨z4, h4⟩ : ∃ z4, N % p = z4 := ⟨_, rfl⟩
  obtain ⟨v, hv⟩ : ∃ v, invZ (N % p) p = v := ⟨_, rfl⟩
  have bv := invZ_lt (a := N % p) (p := p) (by omega)
  rw [hv] at bv
  rw [h1] at b10 b11
  rw [h2] at b20 b21
  rw [h4] at b40 b41
  have b30 := Int.emod_nonneg (z1 - z2) (show p ≠ 0 by omega)
  have b31 := Int.emod_lt_of_pos (z1 - z2) (show 0 < p by omega)
  obtain ⟨z3, h3⟩ : ∃ z3, (z1 - z2) % p = z3 := ⟨_, rfl⟩
  rw [h3] at b30 b31
  obtain ⟨d, hd⟩ : ∃ d, z1 - z2 = d := ⟨_, rfl⟩
  have hwd : IntKind.i64.wrap (z1 - z2) = d := by rw [hd]; exact IntWalk.i64_in _ (by omega)
  have hm0 : 0 ≤ z3 * v := Int.mul_nonneg b30 bv.1
  have hm1 : z3 * v ≤ 2147483647 * 2147483647 := Int.mul_le_mul (by omega) (by omega) bv.1 (by omega)
  obtain ⟨m, hm⟩ : ∃ m, z3 * v = m := ⟨_, rfl⟩
  rw [hm] at hm0 hm1
  have hwm : IntKind.i64.wrap (z3 * v) = m := by rw [hm]; exact IntWalk.i64_in _ (by omega)
  have b50 := Int.emod_nonneg m (show p ≠ 0 by omega)
  have b51 := Int.emod_lt_of_pos m (show 0 < p by omega)
  obtain ⟨k, hk⟩ : ∃ k, m % p = k := ⟨_, rfl⟩
  have htm : m.tmod p = k := by rw [Int.tmod_eq_emod_of_nonneg hm0]; exact hk
  rw [hk] at b50 b51
  rw [crtStep_is X N r p z1 z2 z3 v k h1 h2 h3 hv (by rw [hm]; exact hk)]
  have hp0 : 0 < p := by omega
  have hpz : (p == 0) = false := by apply beq_eq_false_iff_ne.2; omega
  go_enter Tryz.func46, Tryz.ntmps46
  go_upto_region 1 with fail
  obtain ⟨W, hW, hB, hx, hy, hr, hz⟩ := boxes2 w xn xo xk xc nn no nk nc
  rw [← hW]
  clear hW
  have ha := ha.below hB
  have hb := hb.below hB
  have C1 := Lib.hid (fun wx => residue_ext r p wx (by omega) (by omega))
  have C2 := Lib.hid (fun wx (h : Ext W wx) => remainder_any xn xo xk xc X p wx (ha.below h) (by omega) (by omega) (by omega))
  have C3 := Lib.hid (fun wx => residue_ext d p wx (by omega) (by omega))
  have C4 := Lib.hid (fun wx (h : Ext W wx) => remainder_any nn no nk nc N p wx (hb.below h) (by omega) (by omega) (by omega))
  have C5 := Lib.hid (fun wx => inverse_ext z4 p wx b40 b41 hp1 hp)
  rw [h1] at C1
  rw [h2] at C2
  rw [← hd, h3] at C3
  rw [h4] at C4
  rw [← h4, hv] at C5
  rw [h4] at C5
  rw [hd] at C3
  have HA := Lib.hid (show ∀ wx, Ext W wx → Bg wx xn xo xk xc X from fun wx h => ha.below h)
  have HB := Lib.hid (show ∀ wx, Ext W wx → Bg wx nn no nk nc N from fun wx h => hb.below h)
  have HK := Lib.hid (show 0 ≤ k ∧ k < p ∧ p ≤ 2147483647 from ⟨b50, b51, hp⟩)
  generalize hBe : w.heap.size = B at *
  have HBE := Lib.hid hBe
  have HE := Lib.hid (show Ext w W by rw [← hBe] at hB; exact hB)
  have hcells : ∀ wx, Ext W wx → (wx.cell? ⟨B, 0, none⟩ = some (.bool xn) ∧ wx.cell? ⟨B, 1, none⟩ = some (.slice xo xk xc)) ∧ (wx.cell? ⟨B + 1, 0, none⟩ = some (.bool nn) ∧ wx.cell? ⟨B + 1, 1, none⟩ = some (.slice no nk nc)) := fun wx h => ⟨⟨(hx.below h).c0, (hx.below h).c1⟩, ⟨(hy.below h).c0, (hy.below h).c1⟩⟩
  have HC := Lib.hid hcells
  have HR := Lib.hid (show ∀ wx, Ext W wx → Box wx (B + 1 + 1) false none 0 0 from fun wx h => hr.below h)
  have HBz := Lib.hid (show B + 1 + 1 < W.heap.size from hr.lt)
  have EX := bg_ent ha 90 hx90 (by omega)
  have EN := bg_ent hb 90 hn90 (by omega)
  have stn : St W W [⟨.agg #[.bool xn, .slice xo xk xc], X, 90, false⟩, ⟨.agg #[.bool nn, .slice no nk nc], N, 90, false⟩] := ⟨Ext.refl W, fun p hp => by
    simp only [List.mem_cons, List.not_mem_nil, or_false] at hp
    rcases hp with rfl | rfl
    · exact EX
    · exact EN⟩
  clear EX EN
  clear hcells hx hy hr ha hb hB hz hBe h1 h2 h3 h4 hv hd hm hk b10 b11 b20 b21 b30 b31 b40 b41 b50 b51 bv hm0 hm1 hp1 hp hx90 hn90
  obtain ⟨⟨d0, d1⟩, d2, d3⟩ := HC.out W (Ext.refl W)
  have std := stn.drew
  first | (go_region_held3 (fun wx => (wx.cell? ⟨B, 0, none⟩ = some (.bool xn) ∧ wx.cell? ⟨B, 1, none⟩ = some (.slice xo xk xc)) ∧ (wx.cell? ⟨B + 1, 0, none⟩ = some (.bool nn) ∧ wx.cell? ⟨B + 1, 1, none⟩ = some (.slice no nk nc)))
    (first | exact HC.out _ (by exact St.ext (by with_reducible assumption)))
    (first
      | (go_at_call 38; (with_reducible refine (C1.out _).mono ?_); rintro e wn ⟨rfl, hwn⟩; have stn := St.step (W := W) (by with_reducible assumption) hwn)
      | (go_at_call 38; (with_reducible refine (C3.out _).mono ?_); rintro e wn ⟨rfl, hwn⟩; have stn := St.step (W := W) (by with_reducible assumption) hwn)
      | (go_at_call 67; (with_reducible refine (C2.out _ (by exact St.ext (by assumption))).mono ?_); rintro e wn ⟨rfl, hwn⟩; have stn := St.step (W := W) (by with_reducible assumption) hwn)
      )) | fail "no walk"
  clear std d0 d1 d2 d3 C1 C2 C3
  obtain ⟨⟨d0, d1⟩, d2, d3⟩ := HC.out _ stn.ext
  go_wp2_with fail
  refine (C4.out _ (by exact St.ext stn)).mono ?_
  rintro e w4 ⟨rfl, h4⟩
  have st4 := stn.step h4
  clear d0 d1 d2 d3 stn h4 C4
  go_wp2_with fail
  refine (C5.out _).mono ?_
  rintro e w5 ⟨rfl, h5⟩
  have st5 := st4.step h5
  clear st4 h5 C5
  go_upto_region 3 with fail
  obtain ⟨⟨d0, d1⟩, d2, d3⟩ := HC.out _ st5.ext
  clear hwd hwm htm hp0 hpz
  have std := st5.drew
  first | (go_region_held3 (fun wx => (wx.cell? ⟨B, 0, none⟩ = some (.bool xn) ∧ wx.cell? ⟨B, 1, none⟩ = some (.slice xo xk xc)) ∧ (wx.cell? ⟨B + 1, 0, none⟩ = some (.bool nn) ∧ wx.cell? ⟨B + 1, 1, none⟩ = some (.slice no nk nc)))
    ((refine ⟨?_, ?_⟩; ((repeat (first | with_reducible refine bcells_drew ?_ | with_reducible refine bcells_alloc ?_ | with_reducible refine bcells_stored (by omega) ?_)); exact (HC.out _ (by exact St.ext (by with_reducible assumption))).1); ((repeat (first | with_reducible refine bcells_drew ?_ | with_reducible refine bcells_alloc ?_ | with_reducible refine bcells_stored (by omega) ?_)); exact (HC.out _ (by exact St.ext (by with_reducible assumption))).2)))
    (first
      | (go_at_call 45; refine (fromInt_bag (W := W) (by with_reducible assumption) k (by have := HK.out; omega)).mono ?_; rintro e wn ⟨r1, rfl, stn⟩)
      | (go_at_call 47; refine (mul_bag (W := W) (by with_reducible assumption) (by repeat (first | exact List.Mem.head _ | refine List.Mem.tail _ ?_)) (by repeat (first | exact List.Mem.head _ | refine List.Mem.tail _ ?_)) (by omega) (by omega) (by omega)).mono ?_; rintro e wn ⟨r2, rfl, stm⟩)
      | (go_at_call 49; refine (add_bag (W := W) (by with_reducible assumption) (by repeat (first | exact List.Mem.head _ | refine List.Mem.tail _ ?_)) (by repeat (first | exact List.Mem.head _ | refine List.Mem.tail _ ?_)) (by omega) (by omega)).mono ?_; rintro e wr ⟨r3, rfl, str⟩; obtain ⟨xn', xo', xk', xc', rfl, e1, e2, e3, e4⟩ := str.bag _ (List.Mem.head _); have bz := HR.out _ (by exact St.ext (by with_reducible assumption)); have z0 := bz.c0; have z1 := bz.c1; have z2 := bz.f 0; have z3 := bz.f 1)
      )) | fail "no walk"
  have hbn := e4 trivial
  have zz := bz.stored xn' xo' xk' xc'
  have y0 := zz.c0
  have y1 := zz.c1
  have ho := only_set2 wr (B + 1 + 1) (.bool xn') (.slice xo' xk' xc')
  have HF := Lib.hid (show Bn ((wr.setCell ⟨B + 1 + 1, 0, none⟩ (.bool xn')).setCell ⟨B + 1 + 1, 1, none⟩ (.slice xo' xk' xc')) xn' xo' xk' xc' (X + N * k) ∧ Ext w ((wr.setCell ⟨B + 1 + 1, 0, none⟩ (.bool xn')).setCell ⟨B + 1 + 1, 1, none⟩ (.slice xo' xk' xc')) from
    ⟨⟨hbn.neg, hbn.sl.only_box bz ho⟩, Below.trans (HE.out.trans str.ext) (ho.below (by rw [HBE.out]; omega))⟩)
  clear z0 z1 z2 z3 d0 d1 d2 d3 e1 e2 e3 e4 hbn zz bz ho std stn stm str st5
  go_wp2
  refine bodyPost_ret (v := .agg #[.bool xn', .slice xo' xk' xc']) (by simp [results, Tryz.results46, go_sem, y0, y1]) rfl ⟨xn', xo', xk', xc', rfl, HF.out.1, HF.out.2⟩
end Go.Proofs.YthicfkeiggcjjaaGreatDoor

namespace Go.Proofs.YthicfkeiggcjjaaGreatDoor
open Go Go.RowKit Go.Maps

/-- what is read from a set of bools -/
theorem bool_read {H : Type} {P : Program} {e : TypeId} (he : P.underlying e = some .bool) {v : Value} {d : DataW H} {ps : List MemPlace} (h : plainElem P e v = some (d, ps)) : ∃ x, v = .bool x ∧ d = .lit (.bool x) := by
  unfold plainElem at h
  rw [he] at h
  cases v <;> simp at h
  exact ⟨_, rfl, h.1.symm⟩

/-- the look-up in a map of bools as one step of a walk -/
theorem step_look_bool {H : Type} {P : Program} (w : World) {ops : Array Oper} {rest : List Oper} {o : Oper} {a : Act} {Q : Exit → Act → World → Prop} (hg : o.guard = none) (m x : Operand) (t : TypeId) (hop : o.op = Op.lookup t m x false)
    (k e : TypeId) (K : Keyed P k) (ht : P.underlying t = some (.map k e)) (he : P.underlying e = some .bool) (hz : (zeroValue e).run P w = .ok (.bool false) w) (b n : Nat) (D : DataW H) (hm : a.eval m = .map (some b)) (hown : w.ownsMap P k (plainElem P e) b n D)
    (key : Value) (kl : Lit) (hx : a.eval x = key) (hkey : keyOf P k key = some kl) (y : Bool) (hy : D.atKey kl (.lit (.bool false)) = .lit (.bool y)) (hK : wpList P ops Q rest (a.put o.dst (.bool y)) w) : wpList P ops Q (o :: rest) a w := by
  obtain ⟨v, ps, hrun, hv⟩ := hown.lookup K ht hz (plainElem_bool he false) hkey
  obtain ⟨c, rfl, hc⟩ := bool_read he hv
  rw [hy] at hc
  have hcy : c = y := by injection hc with h; injection h with h; exact h.symm
  subst hcy
  refine wpList_plain hg fun K' hK' => ?_
  unfold Oper.wp
  simp [execOp, hop, hm, hx, hrun, Result.andThen]
  exact hK' _ _ hK

theorem Tryz.lawInt : Keyed Tryz.prog 3 := int_keyed Tryz.underlying3
theorem Tryz.zeroBool (w : World) : (zeroValue 4).run Tryz.prog w = .ok (.bool false) w := by kernel_rfl

/-- is one of the first n numbers there -/
def inB (l : List Int) (z : Int) : Bool := l.any fun y => y == z
/-- does a number stand again behind some others -/
def dupB : List Int → List Int → Bool
  | _, [] => false
  | seen, z :: l => if inB seen z then true else dupB (seen ++ [z]) l
/-- the error of a list of moduli -/
def modE (ps : List Int) : Int := if ps.all mr then (if dupB [] ps then 1 else 0) else 70

/-- the map holds these numbers -/
def SetIs (w : World) (b n : Nat) (seen : List Int) : Prop := ∃ D : DataW Unit, w.ownsMap Tryz.prog 3 (plainElem Tryz.prog 4) b n D ∧ ∀ z : Int, D.atKey (.int .i64 z) (.lit (.bool false)) = .lit (.bool (inB seen z))
theorem inB_append (l : List Int) (y z : Int) : inB (l ++ [y]) z = (inB l z || (y == z)) := by unfold inB; rw [List.any_append]; simp
theorem SetIs.add {w' : World} {b n : Nat} {seen : List Int} {z : Int} {D : DataW Unit} (hm : IsMap D) (hD : ∀ z : Int, D.atKey (.int .i64 z) (.lit (.bool false)) = .lit (.bool (inB seen z))) (h : w'.ownsMap Tryz.prog 3 (plainElem Tryz.prog 4) b (n + 1) (D.put (.int .i64 z) (.lit (.bool true)))) : SetIs w' b (n + 1) (seen ++ [z]) := by
  refine ⟨_, h, fun y => ?_⟩
  rw [inB_append]
  by_cases hzy : y = z
  · subst hzy
    rw [atKey_put_same hm (by first | trivial | exact ⟨_, _, rfl⟩ | simp [WideAt.IsKeyLit])]
    simp
  · rw [atKey_put_other (fun e => hzy (by injection e)), hD y]
    have : (z == y) = false := beq_eq_false_iff_ne.2 (fun e => hzy e.symm)
    rw [this, Bool.or_false]

set_option maxRecDepth 100000 in
set_option maxHeartbeats 4000000 in
theorem checkModuli_any (ao : Option Addr) (n cap : Nat) (ps : List Int) (w : World) (h : Ns w ao n cap ps) (hn : n ≤ 1000) (hr : ∀ p ∈ ps, -9223372036854775808 ≤ p ∧ p ≤ 9223372036854775807) (hT : Table64 w) :
    Calls Tryz.prog 44 #[.slice ao n cap] w fun e w' => e = .returned (.int .i64 (modE ps)) ∧ Ext w w' := by
  have hmm := @run_makeMap Tryz.prog
  obtain ⟨R, hR⟩ : ∃ R, modE ps = R := ⟨_, rfl⟩
  rw [hR]
  have HR := Lib.hid hR
  have HN := Lib.hid h
  have HT := Lib.hid hT
  have HL := Lib.hid (show ps.length = n from h.len)
  have CI := Lib.hid (fun p => isPrime_any p w hT)
  have HPR := Lib.hid hr
  clear hR h hT hr
  go_enter Tryz.func44, Tryz.ntmps44
  go_wp2
  go_loopw [10] (fun iv wr => ∃ k : Nat, k ≤ n ∧ iv = .int .i64 (k : Int) ∧ Hid ((ps.take k).all mr = true) ∧ w = wr)
    (fun iv _ => n - (intOf iv).toNat)
  case atStart => exact ⟨0, Nat.zero_le _, rfl, Lib.hid rfl, rfl⟩
  case round =>
    obtain ⟨k, hk, rfl, HA, rfl⟩ := hrel
    by_cases hlt : k < n
    · obtain ⟨b, off, rfl, hc⟩ := HN.out.cells (by omega)
      have hck := hc k hlt
      obtain ⟨z, hz⟩ : ∃ z, ps.getD k 0 = z := ⟨_, rfl⟩
      rw [hz] at hck
      have htk : ps.take (k + 1) = ps.take k ++ [z] := by
        have hkl : k < ps.length := by rw [HL.out]; exact hlt
        rw [List.take_add_one, List.getElem?_eq_getElem hkl, ← hz]
        simp [List.getD, hkl]
      have HTK := Lib.hid htk
      have HZM := Lib.hid (show z ∈ ps by
        have hkl : k < ps.length := by rw [HL.out]; exact hlt
        rw [← hz]; simp [List.getD, hkl])
      have hki : (k : Int) < (n : Int) := by omega
      clear hc hz htk
      go_wp2_with fail
      refine (CI.out z).mono ?_
      rintro e w1 ⟨rfl, rfl⟩
      cases hm : mr z with
      | false =>
        have hr : R = 70 := by
          rw [← HR.out]; unfold modE
          rw [if_neg]
          intro hall
          rw [List.all_eq_true.1 hall z HZM.out] at hm
          cases hm
        subst hr
        clear hm
        go_wp2
        go_ret
        exact ⟨rfl, Ext.refl _⟩
      | true =>
        have HA2 := Lib.hid (show (ps.take (k + 1)).all mr = true by rw [HTK.out, List.all_append, HA.out]; simp [hm])
        clear hm
        go_wp2
        go_roundw
        case rel => exact ⟨k + 1, by omega, by go_num, HA2, trivial⟩
        case measure => simp [intOf]; omega
    · obtain rfl : k = n := by omega
      have HALL := Lib.hid (show ps.all mr = true by
        have := HA.out
        rwa [List.take_of_length_le (by rw [HL.out]; exact Nat.le_refl _)] at this)
      have HR2 := Lib.hid (show R = if dupB [] ps then 1 else 0 by rw [← HR.out]; unfold modE; rw [if_pos HALL.out])
      clear hlt HA HALL hk CI HR
      go_wp2
      go_loopw [21] (fun iv wr => ∃ k1 : Nat, k1 ≤ k ∧ iv = .int .i64 (k1 : Int) ∧ SetIs wr w.heap.size k1 (ps.take k1) ∧ Hid (dupB [] ps = dupB (ps.take k1) (ps.drop k1)) ∧ Below w.heap.size w wr)
        (fun iv _ => k - (intOf iv).toNat)
      case atStart => exact ⟨0, Nat.zero_le _, rfl, ⟨_, World.ownsMap_made _ _ _ _, fun _ => rfl⟩, Lib.hid rfl, (Below.refl _ _).alloc (Nat.le_refl _) _⟩
      case round =>
        obtain ⟨k1, hk1, rfl, ⟨D, hown, hD⟩, HD2, hB⟩ := hrel
        by_cases hlt : k1 < k
        · have hN := HN.out.below (show Ext w wr from hB)
          obtain ⟨b, off, rfl, hc⟩ := hN.cells (by omega)
          have hck := hc k1 hlt
          obtain ⟨z, hz⟩ : ∃ z, ps.getD k1 0 = z := ⟨_, rfl⟩
          rw [hz] at hck
          have hkl : k1 < ps.length := by rw [HL.out]; exact hlt
          have HTK := Lib.hid (show ps.take (k1 + 1) = ps.take k1 ++ [z] by
            rw [List.take_add_one, List.getElem?_eq_getElem hkl, ← hz]
            simp [List.getD, hkl])
          have HDR := Lib.hid (show ps.drop k1 = z :: ps.drop (k1 + 1) by
            rw [List.drop_eq_getElem_cons hkl, ← hz]
            simp [List.getD, hkl])
          have hzr := HPR.out z (by rw [← hz]; simp [List.getD, hkl])
          have hkey : keyOf Tryz.prog 3 (.int .i64 z) = some (.int .i64 z) := keyOf_int_mk Tryz.underlying3 (WalkArith.wf_i64 hzr)
          obtain ⟨y, hy⟩ : ∃ y, inB (ps.take k1) z = y := ⟨_, rfl⟩
          have hDz := hD z
          rw [hy] at hDz
          have HDD := Lib.hid hD
          have HIM := Lib.hid hown.isMap
          have hki : (k1 : Int) < (k : Int) := by omega
          have HSTEP := Lib.hid (show dupB [] ps = if y then true else dupB (ps.take (k1 + 1)) (ps.drop (k1 + 1)) by rw [HD2.out, HDR.out, HTK.out]; conv => lhs; unfold dupB; rw [hy])
          have HOWN := Lib.hid hown
          have hkmax : k1 < maxLen := by unfold maxLen; omega
          clear hc hz hD hN hkl hzr hy HD2 hown
          cases y with
          | true =>
            have hr : R = 1 := by rw [HR2.out, HSTEP.out]; rfl
            subst hr
            go_wp2_with (first
              | (at_lookup; refine step_look_bool _ rfl _ _ 94 rfl 3 4 Tryz.lawInt Tryz.underlying94 Tryz.underlying4 (Tryz.zeroBool _) w.heap.size k1 _ rfl HOWN.out _ _ rfl hkey true hDz ?_)
              | go_in)
            go_ret
            exact ⟨rfl, hB⟩
          | false =>
            have HS2 := Lib.hid (show dupB [] ps = dupB (ps.take (k1 + 1)) (ps.drop (k1 + 1)) by rw [HSTEP.out]; rfl)
            go_wp2_with (first
              | (at_lookup; refine step_look_bool _ rfl _ _ 94 rfl 3 4 Tryz.lawInt Tryz.underlying94 Tryz.underlying4 (Tryz.zeroBool _) w.heap.size k1 _ rfl HOWN.out _ _ rfl hkey false hDz ?_)
              | (at_mapUpdate; refine wpList_mapUpdate_own _ rfl _ _ _ 94 rfl 3 4 Tryz.lawInt Tryz.underlying94 _ w.heap.size k1 _ rfl HOWN.out hkmax _ _ _ rfl rfl hkey _ [] (plainElem_bool Tryz.underlying4 true) ?_; intro w1 hown1 hgrow1)
              | go_in)
            go_roundw
            case rel => exact ⟨k1 + 1, by omega, by go_num, by rw [HTK.out]; exact SetIs.add HIM.out HDD.out hown1, HS2, hB.grown hgrow1 hB.size (fun j hj => by cases hj; exact Nat.le_refl _)⟩
            case measure => simp [intOf]; omega
        · obtain rfl : k1 = k := by omega
          have hr : R = 0 := by
            rw [HR2.out, HD2.out, List.drop_eq_nil_of_le (by rw [HL.out]; exact Nat.le_refl _)]
            unfold dupB; rfl
          subst hr
          clear HD2 hown hD
          go_wp2
          go_ret
          exact ⟨rfl, hB⟩
end Go.Proofs.YthicfkeiggcjjaaGreatDoor
