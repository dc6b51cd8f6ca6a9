import Derived.Test.YthicfkeiggcjjaaGreatDoorEcDlU2
import Derived.Test.YthicfkeiggcjjaaGreatDoorEcDlU5
import Derived.Deep.RegionHeld3
import Derived.Test.YthicfkeiggcjjaaGreatDoorEcDlU3
import Derived.Laws.AppendOwn
import Derived.OwnWalk
import Derived.Test.YthicfkeiggcjjaaGreatDoorEcDlU4
import Derived.Test.YthicfkeiggcjjaaGreatDoorEcDlU7
import Derived.Test.YthicfkeiggcjjaaGreatDoorEcDlU9
import Derived.Test.YthicfkeiggcjjaaGreatDoorEcDlU14
import Derived.Test.YthicfkeiggcjjaaGreatDoorEcDlU13
import Derived.Test.YthicfkeiggcjjaaGreatDoorEcDlU0
import Derived.WalkKit
import Derived.WalkSmall
import Derived.Lib.Hide
import Derived.Deep.RegionLaw
import Derived.Deep.Onto
namespace Go.Proofs.YthicfkeiggcjjaaGreatDoor
open Go.RowKit

theorem len_zero_iff {a k : Nat} (h : (limbs a).length = k) : k = 0 ↔ a = 0 := by
  subst h
  constructor
  · intro h; exact limbs_inj (by rw [limbs_zero]; exact List.eq_nil_of_length_eq_zero h)
  · rintro rfl; simp [limbs_zero]

set_option maxRecDepth 100000 in
set_option maxHeartbeats 1000000 in
theorem sign_any (nb : Bool) (ao : Option Addr) (n ca : Nat) (x : Int) (w : World) (h : Bg w nb ao n ca x) :
    Calls Tryz.prog 69 #[.agg #[.bool nb, .slice ao n ca]] w fun e w' => e = .returned (.int .i64 (sgn3 x 0)) ∧ Below w.heap.size w w' := by
  obtain ⟨⟨zs, hs, hx⟩, hsm⟩ := h
  have hx' := Lib.hid hx; clear hx
  obtain ⟨k, hk, hs1, ht⟩ := trim_at _ _ _ _ _ hs
  have hn0 := num_nonneg hs.wf
  have h0 := len_zero_iff hs1.len
  have HT := Lib.hid ht; clear ht
  have hsc := Lib.hid (Sl.below hs (((Below.refl w.heap.size w).alloc (Nat.le_refl _) (.cells #[.bool nb, .slice ao n ca] 52))))
  clear hs1
  by_cases hz : k = 0
  · have hx0 : sgn3 x 0 = 0 := by
      have e := h0.1 hz
      have e2 : num zs = 0 := by omega
      rw [hx'.out]; simp [sgd, sgn3, e2]
    have HX := Lib.hid hx0; clear hx0 h0
    subst hz
    go_enter Tryz.func69, Tryz.ntmps69
    go_wp2_with fail
    refine (HT.out _ hsc.out).mono ?_
    rintro e w1 ⟨rfl, rfl⟩
    go_wp2
    go_ret
    exact ⟨by rw [HX.out]; rfl, (Below.refl _ w).alloc (Nat.le_refl _) _⟩
  · have hpos : 0 < num zs := by
      have : (num zs).toNat ≠ 0 := fun e => hz (h0.2 e)
      omega
    have hk0 : ((k : Int) == 0) = false := beq_eq_false_iff_ne.2 (by omega)
    clear h0 hz
    cases nb with
    | true =>
      have hx0 : sgn3 x 0 = -1 := by rw [hx'.out]; simp [sgd, sgn3]; omega
      have HX := Lib.hid hx0; clear hx0 hpos hn0
      go_enter Tryz.func69, Tryz.ntmps69
      go_wp2_with fail
      refine (HT.out _ hsc.out).mono ?_
      rintro e w1 ⟨rfl, rfl⟩
      go_wp2
      go_ret
      exact ⟨by rw [HX.out]; rfl, (Below.refl _ w).alloc (Nat.le_refl _) _⟩
    | false =>
      have hx0 : sgn3 x 0 = 1 := by rw [hx'.out]; simp [sgd, sgn3]; omega
      have HX := Lib.hid hx0; clear hx0 hpos hn0
      go_enter Tryz.func69, Tryz.ntmps69
      go_wp2_with fail
      refine (HT.out _ hsc.out).mono ?_
      rintro e w1 ⟨rfl, rfl⟩
      go_wp2
      go_ret
      exact ⟨by rw [HX.out]; rfl, (Below.refl _ w).alloc (Nat.le_refl _) _⟩
end Go.Proofs.YthicfkeiggcjjaaGreatDoor

namespace Go.Proofs.YthicfkeiggcjjaaGreatDoor
open Go.RowKit

theorem Bg.drew {w : World} {nb : Bool} {ao : Option Addr} {n cap : Nat} {x : Int} (h : Bg w nb ao n cap x) : Bg w.drew nb ao n cap x := h.below (Below.refl _ _).drew

theorem sgn3_bd (x y : Int) : -1 ≤ sgn3 x y ∧ sgn3 x y ≤ 1 := by unfold sgn3; omega

theorem sgn3_signs {x y : Int} (h : sgn3 x 0 ≠ sgn3 y 0) : sgn3 (sgn3 x 0) (sgn3 y 0) = sgn3 x y := by
  unfold sgn3 at *
  repeat' split
  all_goals first | omega | (simp_all; done) | (exfalso; simp_all; omega)

theorem sgn3_mags {nb mb : Bool} {zs ys : List Int} {x y : Int} (hz : Wf zs) (hy : Wf ys) (ex : x = sgd nb zs) (ey : y = sgd mb ys) (h : sgn3 x 0 = sgn3 y 0) :
    (if nb then - sgn3 (num zs).toNat (num ys).toNat else sgn3 (num zs).toNat (num ys).toNat) = sgn3 x y := by
  have a := num_nonneg hz
  have b := num_nonneg hy
  rw [Int.toNat_of_nonneg a, Int.toNat_of_nonneg b]
  subst ex ey
  unfold sgd at *
  unfold sgn3 at *
  generalize num zs = p at *
  generalize num ys = q at *
  cases nb <;> cases mb <;> simp only [Bool.false_eq_true, if_true, if_false] at h ⊢ <;> omega

set_option maxRecDepth 100000 in
set_option maxHeartbeats 4000000 in
theorem cmp_any (nb mb : Bool) (ao : Option Addr) (n ca : Nat) (bo : Option Addr) (m cb : Nat) (x y : Int) (w : World) (ha : Bg w nb ao n ca x) (hb : Bg w mb bo m cb y) :
    Calls Tryz.prog 48 #[.agg #[.bool nb, .slice ao n ca], .agg #[.bool mb, .slice bo m cb]] w fun e w' => e = .returned (.int .i64 (sgn3 x y)) ∧ Below w.heap.size w w' := by
  go_enter Tryz.func48, Tryz.ntmps48
  go_wp2_with fail
  obtain ⟨W, hW, hB, hbx, hby⟩ : ∃ W, W = (w.alloc (.cells #[.bool nb, .slice ao n ca] 52)).alloc (.cells #[.bool mb, .slice bo m cb] 52) ∧ Below w.heap.size w W ∧
      Box W w.heap.size nb ao n ca ∧ Box W (w.heap.size + 1) mb bo m cb := by
    refine ⟨_, rfl, ((Below.refl _ w).alloc (Nat.le_refl _) _).alloc (by simp) _, ?_, ?_⟩
    · exact (Box.new w nb ao n ca).below ((Below.refl _ _).alloc (Nat.le_refl _) _)
    · have := Box.new (w.alloc (.cells #[.bool nb, .slice ao n ca] 52)) mb bo m cb
      simpa using this
  rw [← hW]
  clear hW
  have ha0 := ha.below hB
  have hb0 := hb.below hB
  generalize hBe : w.heap.size = B at *
  have HBe := Lib.hid hBe; clear hBe
  have hBelow := Lib.hid hB
  clear ha hb hB
  have k0 := hbx.c0
  have k1 := hbx.c1
  have l0 := hby.c0
  have l1 := hby.c1
  go_region_held3 (fun w' => w'.cell? ⟨B, 0, none⟩ = some (.bool nb) ∧ w'.cell? ⟨B, 1, none⟩ = some (.slice ao n ca) ∧ w'.cell? ⟨B + 1, 0, none⟩ = some (.bool mb) ∧ w'.cell? ⟨B + 1, 1, none⟩ = some (.slice bo m cb))
    (first | exact ⟨k0, k1, l0, l1⟩ | exact ⟨xa.c0, xa.c1, ya.c0, ya.c1⟩ | exact ⟨xb.c0, xb.c1, yb.c0, yb.c1⟩)
    (first
      | (go_at_call 69; first
          | ((with_reducible refine (sign_any nb ao n ca x _ (by first | exact ha0.drew | exact ha0.drew.below hwb)).mono ?_); rintro e wa ⟨rfl, hwa⟩; first | (have xa := hbx.drew.below hwa; have ya := hby.drew.below hwa) | (have xa := xb.below hwa; have ya := yb.below hwa))
          | ((with_reducible refine (sign_any mb bo m cb y _ (by first | exact hb0.drew | exact hb0.drew.below hwa)).mono ?_); rintro e wb ⟨rfl, hwb⟩; first | (have xb := hbx.drew.below hwb; have yb := hby.drew.below hwb) | (have xb := xa.below hwb; have yb := ya.below hwb))))
  obtain ⟨bA, lA⟩ := bnext hBelow.out (by have := hbx.lt; omega) (Below.refl _ W).drew
  obtain ⟨b1, l1'⟩ := bnext bA lA hwa
  obtain ⟨b2, l2'⟩ := bnext b1 l1' hwb
  have hA := (ha0.drew.below hwa).below hwb
  have hBb := (hb0.drew.below hwa).below hwb
  have b2' := Lib.hid b2
  clear hbx hby k0 k1 l0 l1 ha0 hb0 hBelow bA lA b1 l1' b2 hwa hwb xa ya
  by_cases hsg : sgn3 x 0 = sgn3 y 0
  · obtain ⟨⟨zs, hs, hx⟩, hsm⟩ := hA
    obtain ⟨⟨ys, hu, hy⟩, hum⟩ := hBb
    have hfin := sgn3_mags hs.wf hu.wf hx hy hsg
    have hne : (sgn3 x 0 != sgn3 y 0) = false := by simp [hsg]
    rw [hsg] at hne ⊢
    clear hx hy hsg
    obtain ⟨k1, hk1, hs1, ht1⟩ := trim_at _ _ _ _ _ hs
    obtain ⟨k2, hk2, hu1, ht2⟩ := trim_at _ _ _ _ _ hu
    generalize (num zs).toNat = a at hs1 hfin
    generalize (num ys).toNat = b at hu1 hfin
    have HF := Lib.hid hfin; clear hfin
    have HT1 := Lib.hid ht1; clear ht1
    have HT2 := Lib.hid ht2; clear ht2
    have k0 := xb.c0
    have k1' := xb.c1
    have l0 := yb.c0
    have l1' := yb.c1
    go_wp2_with fail
    go_quiet ((first | (go_at_call 51; first | (with_reducible exact quiet_left (HT1.out _ (by exact hs.drewN _))) | (with_reducible exact quiet_left (HT2.out _ (by exact hu.drewN _)))) | (go_at_call 71; exact Calls.quiet_of (compare_any _ _ _ _ _ _ _ _ _ (by exact hs1.drewN _) (by exact hu1.drewN _)))))
    cases nb with
    | true =>
      have HF2 : Hid (- sgn3 (a : Int) b = sgn3 x y) := HF.out
      obtain ⟨d1, d2⟩ := sgn3_bd (a : Int) (b : Int)
      go_wp2
      go_ret
      exact ⟨by rw [← HF2.out]; rfl, by rw [HBe.out]; exact below_drewN b2'.out _⟩
    | false =>
      have HF2 : Hid (sgn3 (a : Int) b = sgn3 x y) := HF.out
      go_wp2
      go_ret
      exact ⟨by rw [← HF2.out]; rfl, by rw [HBe.out]; exact below_drewN b2'.out _⟩
  · have hne : (sgn3 x 0 != sgn3 y 0) = true := by simp [hsg]
    have HS := Lib.hid hsg; clear hsg
    go_wp2_with (go_at_call 70; refine (cmpInt_any _ _ _).mono ?_; rintro e w' ⟨rfl, rfl⟩)
    go_ret
    refine ⟨?_, by rw [HBe.out]; exact b2'.out⟩
    rw [← sgn3_signs HS.out]; rfl
end Go.Proofs.YthicfkeiggcjjaaGreatDoor

namespace Go.Proofs.YthicfkeiggcjjaaGreatDoor
open Go.RowKit

theorem box_new (w : World) (nb : Bool) (ao : Option Addr) (n ca : Nat) :
    ∃ W, W = w.alloc (.cells #[.bool nb, .slice ao n ca] 52) ∧ Below w.heap.size w W ∧ Box W w.heap.size nb ao n ca ∧ w.heap.size + 1 ≤ W.heap.size :=
  ⟨_, rfl, (Below.refl _ w).alloc (Nat.le_refl _) _, Box.new w nb ao n ca, by simp⟩

end Go.Proofs.YthicfkeiggcjjaaGreatDoor

namespace Go.Proofs.YthicfkeiggcjjaaGreatDoor
open Go.RowKit

section
variable {W w : World} {L : List Ent} {u v : Value} {x y : Int} {N M : Nat} {c d : Bool}

theorem cmp_bag (h : St W w L) (h1 : ⟨u, x, N, c⟩ ∈ L) (h2 : ⟨v, y, M, d⟩ ∈ L) (s : Int) (hs : sgn3 x y = s) :
    Calls Tryz.prog 48 #[u, v] w fun e w' => e = .returned (.int .i64 s) ∧ St W w' L := by
  obtain ⟨nb, ao, n, ca, rfl, b1, n1, a1, _⟩ := h.bag _ h1
  obtain ⟨mb, bo, m, cb, rfl, b2, n2, a2, _⟩ := h.bag _ h2
  exact (cmp_any nb mb ao n ca bo m cb x y w b1 b2).mono fun e w' ⟨he, hw⟩ => ⟨by rw [he, hs], h.step hw⟩

end

theorem St.alloc {W w : World} {L : List Ent} (h : St W w L) (o : Obj) : St W (w.alloc o) L := h.step ((Below.refl _ w).alloc (Nat.le_refl _) o)

theorem Ent.Ok.only_box {w w' : World} {p : Ent} {g : Nat} {nb : Bool} {ao : Option Addr} {n ca : Nat} (h : p.Ok w) (hb : Box w g nb ao n ca) (ho : Only g w w') : p.Ok w' := by
  obtain ⟨nb, ao, n, ca, h1, ⟨⟨zs, h2, h2'⟩, h2''⟩, h3, h4, h5⟩ := h
  exact ⟨nb, ao, n, ca, h1, ⟨⟨zs, h2.only_box hb ho, h2'⟩, h2''⟩, h3, h4, fun e => ⟨(h5 e).neg, (h5 e).sl.only_box hb ho⟩⟩

/-- a variable of this call's own is written -/
theorem St.stored {W w : World} {L : List Ent} {g : Nat} {nb : Bool} {ao : Option Addr} {n ca : Nat} (h : St W w L) (hb : Box w g nb ao n ca) (hg : W.heap.size ≤ g) (mb : Bool) (bo : Option Addr) (m cb : Nat) :
    St W ((w.setCell ⟨g, 0, none⟩ (.bool mb)).setCell ⟨g, 1, none⟩ (.slice bo m cb)) L :=
  ⟨Below.trans h.ext ((only_set2 w g _ _).below hg), fun p hp => (h.bag p hp).only_box hb (only_set2 w g _ _)⟩

end Go.Proofs.YthicfkeiggcjjaaGreatDoor

namespace Go.Proofs.YthicfkeiggcjjaaGreatDoor
open Go.RowKit

theorem limbs_len_toNat {zs : List Int} (h : Wf zs) : (limbs (num zs).toNat).length ≤ zs.length := by
  rw [tlen_eq h]; exact tlen_le _ _

end Go.Proofs.YthicfkeiggcjjaaGreatDoor

namespace Go.Proofs.YthicfkeiggcjjaaGreatDoor
open Go.RowKit

set_option maxRecDepth 100000 in
set_option maxHeartbeats 1000000 in
theorem place_any (a : Int) (m : Nat) (w : World) (hm : 0 < m) (hm1 : m ≤ 1000000000) :
    Calls Tryz.prog 23 #[.int .i64 a, .int .i64 (m : Int)] w fun e w' => ∃ j : Nat, j < m ∧ e = .returned (.int .i64 j) ∧ w = w' := by
  have e1 : a % 18446744073709551616 % (m : Int) = ((a % 18446744073709551616 % (m : Int)).toNat : Int) := (Int.toNat_of_nonneg (Int.emod_nonneg _ (by omega))).symm
  have e2 : (a % 18446744073709551616 % (m : Int)).toNat < m := by have := Int.emod_lt_of_pos (a % 18446744073709551616) (show (0 : Int) < m by omega); omega
  go_enter Tryz.func23, Tryz.ntmps23
  go_wp2
  go_ret
  refine ⟨_, e2, ?_, rfl⟩
  have e3 : (IntKind.u64.wrap a).tmod (m : Int) = a % 18446744073709551616 % (m : Int) := by
    rw [IntKind.wrap_u64, Int.tmod_eq_emod_of_nonneg (by omega)]
  show Ending.returned (.int .i64 (wrap64 ((IntKind.u64.wrap a).tmod (m : Int)))) = _
  rw [e3]
  have e4 : wrap64 ((a % 18446744073709551616 % (m : Int)).toNat : Int) = ((a % 18446744073709551616 % (m : Int)).toNat : Int) := by
    generalize (a % 18446744073709551616 % (m : Int)).toNat = j at *
    unfold wrap64
    omega
  rw [(congrArg wrap64 e1).trans e4]

section
variable {W w : World} {L : List Ent} {u : Value} {x : Int} {N : Nat} {c : Bool}

end
end Go.Proofs.YthicfkeiggcjjaaGreatDoor

namespace Go.Proofs.YthicfkeiggcjjaaGreatDoor
open Go Go.RowKit

theorem Tryz.infoInt : (Tryz.prog.info? 3).map (fun i => (i.zero, i.size, i.bytes)) = some (some (.int .i64 0), 1, 8) := by kernel_rfl

/-- the slice reads as these ints -/
structure Ns (w : World) (ao : Option Addr) (n cap : Nat) (l : List Int) : Prop where
  len : l.length = n
  cap : n ≤ cap
  cells : 0 < n → ∃ b off, ao = some ⟨b, off, none⟩ ∧ ∀ j, j < n → w.cell? ⟨b, off + j, none⟩ = some (.int .i64 (l.getD j 0))
theorem Ns.below {w w' : World} {ao : Option Addr} {n cap : Nat} {l : List Int} (h : Ns w ao n cap l) (hb : Ext w w') : Ns w' ao n cap l :=
  ⟨h.len, h.cap, fun h0 => by
    obtain ⟨b, off, e, hc⟩ := h.cells h0
    refine ⟨b, off, e, fun j hj => ?_⟩
    have := hc j hj
    rw [hb.cell (p := ⟨b, off + j, none⟩) (lt_of_cell this)]
    exact this⟩

/-- the call owns the slice v with these indices -/
def OI (w : World) (B : Nat) (v : Value) (L : List Nat) : Prop := w.ownsRow B 3 1 v L.length (L.map fun (f : Nat) => Value.int .i64 (f : Int))
theorem OI.nil (w : World) (B : Nat) : OI w B (.slice none 0 0) [] := World.ownsRow_nil w B _ _
theorem OI.below {w w' : World} {B : Nat} {v : Value} {L : List Nat} (h : OI w B v L) (hb : Ext w w') : OI w' B v L := by
  obtain ⟨h1, h2⟩ := h
  refine ⟨h1, ?_⟩
  rcases h2 with h2 | ⟨g, cap, cur, hv, hbb, hg, r⟩
  · exact .inl h2
  · exact .inr ⟨g, cap, cur, hv, hbb, by rw [hb.block g (Array.getElem?_eq_some_iff.1 hg).1]; exact hg, r⟩
theorem OI.kept {w w' : World} {B C : Nat} {v : Value} {L : List Nat} (h : OI w B v L) (hb : Below C w w') (hlt : ∀ k, v.ownBlock = some k → k < C) : OI w' B v L := by
  obtain ⟨h1, h2⟩ := h
  refine ⟨h1, ?_⟩
  rcases h2 with h2 | ⟨g, cap, cur, hv, hbb, hg, r⟩
  · exact .inl h2
  · exact .inr ⟨g, cap, cur, hv, hbb, by rw [hb.block g (hlt g (by rw [hv]; rfl))]; exact hg, r⟩
theorem OI.only {w w' : World} {B g' : Nat} {v : Value} {L : List Nat} (h : OI w B v L) (ho : w.grownBy w' (some g')) (hne : v.ownBlock ≠ some g') : OI w' B v L := World.ownsRow.kept h ho (.inr hne)
/-- written out -/
theorem OI.form {w : World} {B : Nat} {v : Value} {L : List Nat} (h : OI w B v L) (h0 : L ≠ []) : ∃ g cap, v = .slice (some ⟨g, 0, none⟩) L.length cap ∧ B ≤ g ∧ g < w.heap.size ∧ L.length ≤ cap ∧ (∀ j, j < L.length → w.cell? ⟨g, j, none⟩ = some (.int .i64 ((L.getD j 0 : Nat) : Int))) := by
  obtain ⟨h1, h2⟩ := h
  rcases h2 with ⟨rfl, hl⟩ | ⟨g, cap, cur, rfl, hb, hg, hn, hm, hs, ht⟩
  · exact absurd (List.eq_nil_of_length_eq_zero hl) h0
  · refine ⟨g, cap, rfl, hb, (Array.getElem?_eq_some_iff.1 hg).1, hn, fun j hj => ?_⟩
    rw [cell_of_row w g j _ _ _ hg]
    have : (cur.toList.take (L.length * 1))[j]? = (L.map fun (f : Nat) => Value.int .i64 (f : Int))[j]? := by rw [ht]
    rw [List.getElem?_take, if_pos (by omega)] at this
    simp only [Array.getElem?_toList] at this
    rw [this]
    simp [List.getD, hj]

theorem wpList_append_int (w0 : World) {ops : Array Oper} {rest : List Oper} {o : Oper} {a : Act} {Q : Exit → Act → World → Prop} (hgd : o.guard = none) (s x : Operand)
    (ho : o.op = .call { callee := .builtin .append, args := #[s, x], argTypes := #[23, 23] })
    (B : Nat) (v : Value) (L : List Nat) (y : Nat) (hs : a.eval s = v) (hx : a.eval x = .slice (some ⟨w0.heap.size, 0, none⟩) 1 1) (hown : OI w0 B v L) (hB : B ≤ w0.heap.size) (hL : L.length ≤ 1000000)
    (h : ∀ v' w', OI w' B v' (L ++ [y]) → Below B w0 w' → wpList Tryz.prog ops Q rest (a.put o.dst v') w') :
    wpList Tryz.prog ops Q (o :: rest) a (w0.alloc (.cells #[.int .i64 (y : Int)] 3)) := by
  obtain ⟨i0, hi, hz0, hz1, hz2⟩ := info_parts Tryz.infoInt
  refine wpList_append_own _ hgd s x 23 ho B 3 i0 (.int .i64 0) 1 8 Tryz.underlying23 hi hz0 hz1 hz2 rfl (by decide) v L.length _ hs (World.ownsRow.alloc hown _) ⟨w0.heap.size, 0, none⟩ 1 1 [.int .i64 (y : Int)] hx rfl ?_ ?_ (by unfold maxLen; omega) (by omega) (by simp; omega) ?_
  · intro j u hj
    have hn : (w0.alloc (.cells #[.int .i64 (y : Int)] 3)).heap[w0.heap.size]? = some (.cells #[.int .i64 (y : Int)] 3 (0, 0)) := heap_alloc_new w0 _
    rcases j with _ | j
    · rw [Addr.add_lit, Nat.zero_add, cell_of_row _ w0.heap.size 0 _ _ _ hn]; exact hj
    · simp at hj
  · intro u hu; rw [List.mem_singleton] at hu; subst hu; rfl
  · intro v' w' r1 r2 _
    refine h v' w' ?_ ?_
    · unfold OI
      rw [List.length_append, List.map_append]
      exact r1
    · refine ((Below.refl B w0).alloc hB _).grown r2 (by simp; omega) ?_
      intro k hk
      exact (World.ownsRow.lt hown k hk).1

end Go.Proofs.YthicfkeiggcjjaaGreatDoor

namespace Go.Proofs.YthicfkeiggcjjaaGreatDoor
open Go.ChangeShapes Go.WideShapes Go.ChangeAt Go.RowKit Go.Joins Go.Deep

theorem Tryz.readInts : Tryz.prog.readableRec 23 = true := by kernel_rfl
theorem Tryz.sizeInts : 23 < Tryz.prog.types.size := of_decide_eq_true (by kernel_rfl)

set_option maxRecDepth 100000 in
/-- a list of ints that came in -/
theorem raw_ints {H : Type} {enc : TypeId × Value → H} {W : World} {base : Nat} {v : Value} {d : DataW H} {p : List MemPlace} (hv : Value.okWide Tryz.prog W .any base 23 v)
    (h : DataW.Trod enc Tryz.prog W 0 (fun _ => true) true 23 v d p) : ∃ ao n ca, v = .slice ao n ca ∧ ∃ l, Ns W ao n ca l := by
  obtain ⟨a0, len0, cap0, rfl⟩ := okWide_slice Tryz.underlying23 hv
  refine ⟨a0, len0, cap0, rfl, ?_⟩
  obtain ⟨fuel, hf⟩ := h
  rcases open_ints Tryz.underlying23 Tryz.underlying3 Tryz.cellsInt hf with ⟨e1, _⟩ | ⟨a, len, cap, zs, e1, _, hl, _, hz, _, hcell, hwz⟩
  · simp [Value.cells] at e1
    obtain ⟨rfl, rfl, rfl⟩ := e1
    exact ⟨[], rfl, Nat.le_refl _, fun h => absurd h (by simp)⟩
  · simp [Value.cells] at e1
    obtain ⟨rfl, rfl, rfl⟩ := e1
    simp only [if_true] at hz
    refine ⟨zs.take len0, by rw [List.length_take]; omega, hl, fun h0 => ?_⟩
    obtain ⟨b, off, rfl, hc⟩ := ints_at hcell (by omega)
    refine ⟨b, off, rfl, fun j hj => ?_⟩
    have e : (zs.take len0).getD j 0 = zs.getD j 0 := by simp [List.getD, hj]
    rw [e]
    exact hc j (by omega)
end Go.Proofs.YthicfkeiggcjjaaGreatDoor
