/- Slices of floats that are read. No function of the program stands here. -/
import Derived.Test.YtjohpdobnedilaaGreatDoorGc
import Derived.Test.YtjohpdobnedilaaGreatDoorHg
import Derived.Test.YtjohpdobnedilaaGreatDoorHf
import Derived.Test.YtjohpdobnedilaaGreatDoorGl
import Derived.Test.YtjohpdobnedilaaGreatDoorHd
import Derived.Test.YtjohpdobnedilaaGreatDoorIh
import Derived.Test.YtjohpdobnedilaaGreatDoorGr
import Derived.Test.YtjohpdobnedilaaGreatDoorIg
import Derived.Test.YtjohpdobnedilaaGreatDoorGn
namespace Go.Proofs.YtjohpdobnedilaaGreatDoor
open Go Go.RowKit

/-- the slice reads as these floats -/
structure Fs (w : World) (ao : Option Addr) (n cap : Nat) (l : List Nat) : Prop where
  len : l.length = n
  cap : n ≤ cap
  lt : ∀ x ∈ l, x < 18446744073709551616
  cells : 0 < n → ∃ b off, ao = some ⟨b, off, none⟩ ∧ ∀ j, j < n → w.cell? ⟨b, off + j, none⟩ = some (.int .u64 ((l.getD j 0 : Nat) : Int))

theorem Fs.below {w w' : World} {ao : Option Addr} {n cap : Nat} {l : List Nat} (h : Fs w ao n cap l) (hb : Ext w w') : Fs w' ao n cap l :=
  ⟨h.len, h.cap, h.lt, fun h0 => by
    obtain ⟨b, off, e, hc⟩ := h.cells h0
    refine ⟨b, off, e, fun j hj => ?_⟩
    have := hc j hj
    rw [hb.cell (p := ⟨b, off + j, none⟩) (lt_of_cell this)]
    exact this⟩
theorem Fs.getD_lt {w : World} {ao : Option Addr} {n cap : Nat} {l : List Nat} (h : Fs w ao n cap l) (j : Nat) : l.getD j 0 < 18446744073709551616 := by
  by_cases hj : j < l.length
  · simp only [List.getD, List.getElem?_eq_getElem hj, Option.getD_some]
    exact h.lt _ (List.getElem_mem hj)
  · simp [List.getD, List.getElem?_eq_none (by omega : l.length ≤ j)]
theorem Fs.nil (w : World) (ao : Option Addr) (cap : Nat) : Fs w ao 0 cap [] := ⟨rfl, Nat.zero_le _, by simp, fun h => absurd h (by simp)⟩
/-- the first k -/
theorem Fs.take {w : World} {ao : Option Addr} {n cap : Nat} {l : List Nat} (h : Fs w ao n cap l) (k : Nat) (hk : k ≤ n) : Fs w ao k cap (l.take k) :=
  ⟨by rw [List.length_take, h.len]; omega, by have := h.cap; omega, fun x hx => h.lt x (List.mem_of_mem_take hx), fun h0 => by
    obtain ⟨b, off, e, hc⟩ := h.cells (by omega)
    refine ⟨b, off, e, fun j hj => ?_⟩
    have e2 : (l.take k).getD j 0 = l.getD j 0 := by simp [List.getD, hj]
    rw [e2]; exact hc j (by omega)⟩
/-- those behind the first k -/
theorem Fs.drop {w : World} {b off n cap : Nat} {l : List Nat} (h : Fs w (some ⟨b, off, none⟩) n cap l) (k : Nat) (hk : k ≤ n) : Fs w (some ⟨b, off + k, none⟩) (n - k) (cap - k) (l.drop k) :=
  ⟨by rw [List.length_drop, h.len], by have := h.cap; omega, fun x hx => h.lt x (List.mem_of_mem_drop hx), fun h0 => by
    obtain ⟨b', off', e, hc⟩ := h.cells (by omega)
    cases e
    refine ⟨b, off + k, rfl, fun j hj => ?_⟩
    have e2 : (l.drop k).getD j 0 = l.getD (k + j) 0 := by simp [List.getD, List.getElem?_drop]
    rw [e2, show off + k + j = off + (k + j) by omega]; exact hc (k + j) (by omega)⟩

/-- the call's own block g holds these floats: k of them, room for cap -/
def FR (w : World) (g k cap : Nat) (l : List Nat) : Prop := w.ownsRow 0 23 1 (.slice (some ⟨g, 0, none⟩) k cap) k (l.map fun (f : Nat) => Value.int .u64 (f : Int))
section
variable {w w' : World} {g k cap : Nat} {l : List Nat}
theorem FR.len (h : FR w g k cap l) : l.length = k := by
  have := h.1
  simpa using this
theorem FR.lt (h : FR w g k cap l) : g < w.heap.size := (World.ownsRow.lt h g rfl).2
theorem FR.le (h : FR w g k cap l) : k ≤ cap := by
  rcases h.2 with ⟨h', _⟩ | ⟨g', cap', cur, h', _, _, h1, _⟩
  · simp at h'
  · simp only [Value.slice.injEq, Option.some.injEq, Addr.mk.injEq, and_true, true_and] at h'
    obtain ⟨rfl, rfl⟩ := h'
    exact h1
theorem FR.f (h : FR w g k cap l) (o : Nat) : w.frozen? ⟨g, o, none⟩ = false := World.ownsRow.frozenAt h o
theorem FR.of_block (h : FR w g k cap l) (hb : w'.heap[g]? = w.heap[g]?) : FR w' g k cap l := by
  refine ⟨h.1, ?_⟩
  rcases h.2 with hn | ⟨g', cap', cur, h', hbb, hg, h1⟩
  · exact .inl hn
  · refine .inr ⟨g', cap', cur, h', hbb, ?_, h1⟩
    simp only [Value.slice.injEq, Option.some.injEq, Addr.mk.injEq, and_true, true_and] at h'
    obtain ⟨rfl, rfl⟩ := h'
    rw [hb]; exact hg
theorem FR.kept {B : Nat} (h : FR w g k cap l) (hb : Below B w w') (hg : g < B) : FR w' g k cap l := h.of_block (hb.block g hg)
theorem FR.below (h : FR w g k cap l) (hb : Below w.heap.size w w') : FR w' g k cap l := h.kept hb h.lt
theorem FR.only {g' : Nat} (h : FR w g k cap l) (ho : Only g' w w') (hne : g ≠ g') : FR w' g k cap l := h.of_block (ho.block g hne)
theorem FR.c (h : FR w g k cap l) (j : Nat) (hj : j < k) : w.cell? ⟨g, j, none⟩ = some (.int .u64 ((l.getD j 0 : Nat) : Int)) := by
  rw [World.ownsRow.cellAt h j (by omega)]
  have := h.len
  simp [List.getD, show j < l.length by omega]
theorem FR.set (h : FR w g k cap l) (j x : Nat) : FR (w.setCell ⟨g, j, none⟩ (.int .u64 (x : Int))) g k cap (l.set j x) := by
  have h1 := (World.ownsRow.stored h j (.int .u64 (x : Int))).1
  unfold FR
  rw [List.map_set]
  exact h1
theorem FR.sl (h : FR w g k cap l) (hl : ∀ x ∈ l, x < 18446744073709551616) : Fs w (some ⟨g, 0, none⟩) k cap l :=
  ⟨h.len, h.le, hl, fun _ => ⟨g, 0, rfl, fun j hj => by rw [Nat.zero_add]; exact h.c j hj⟩⟩
end
theorem made1 (n : Nat) : (madeCells (Value.int .u64 0).cells (n * 1)).toList = (List.replicate n 0).map fun (f : Nat) => Value.int .u64 (f : Int) := by
  rw [Nat.mul_one]
  show (madeCells #[Value.int .u64 0] n).toList = _
  rw [toList_madeCells_one]
  simp
end Go.Proofs.YtjohpdobnedilaaGreatDoor

/- What accum.Sum does: the exact sum of floats. -/
namespace Go.Proofs.YtjohpdobnedilaaGreatDoor
open Go Go.RowKit

/-- the first j elements of block g read as the first of the dyads D -/
structure Tb (wr : World) (g n : Nat) (L : List DP) (j : Nat) (D : List Dy) : Prop where
  db : DB wr g L
  len : L.length = n
  fit : j ≤ n
  dn : ∀ i, i < j → Dn wr (L.getD i DP.zero).v (D.getD i none)
theorem Tb.below {w w' : World} {g n j : Nat} {L : List DP} {D : List Dy} (h : Tb w g n L j D) (hb : Ext w w') : Tb w' g n L j D :=
  ⟨h.db.below hb, h.len, h.fit, fun i hi => (h.dn i hi).ext hb⟩
theorem Tb.set {w : World} {g n j : Nat} {L : List DP} {D : List Dy} (h : Tb w g n L j D) {p : DP} (hp : Dn w p.v (D.getD j none)) (hn : j < n) : Tb (set4 w g (4 * j) p) g n (L.set j p) (j + 1) D := by
  have ho := only_set4' w g (4 * j) p
  refine ⟨h.db.set _ _, by simp [h.len], by omega, fun i hi => ?_⟩
  by_cases hlt : i < j
  · have e1 : (L.set j p).getD i DP.zero = L.getD i DP.zero := by
      simp [List.getD, show j ≠ i by omega]
    rw [e1]
    exact (h.dn i hlt).only_db h.db ho
  · obtain rfl : i = j := by omega
    have e1 : (L.set i p).getD i DP.zero = p := by
      have := h.len
      simp [List.getD, show i < L.length by omega]
    rw [e1]
    exact hp.only_db h.db ho
theorem Tb.sl {w : World} {g n : Nat} {L : List DP} {D : List Dy} (h : Tb w g n L n D) (hD : D.length = n) : DSl w (some ⟨g, 0, none⟩) n n (L.take n) D :=
  h.db.sl (by rw [h.len]; exact Nat.le_refl _) hD (Nat.le_refl _) (fun i hi => (h.dn i hi).dg)

theorem map_getD {f : Nat → Dy} {l : List Nat} {j : Nat} (h : j < l.length) : (l.map f).getD j none = f (l.getD j 0) := by
  simp [List.getD, h]

set_option maxRecDepth 100000 in
set_option maxHeartbeats 4000000 in
theorem asum_any (ao : Option Addr) (n cap : Nat) (l : List Nat) (w : World) (h : Fs w ao n cap l) (hT : Table w) (hT6 : Table64 w) (hn : n ≤ 1000000) :
    Calls Tryz.prog 67 #[.slice ao n cap] w fun e w' => ∃ v, e = .returned v ∧ Dn w' v (dtotal (l.map fdy)) ∧ Ext w w' := by
  have HL := Lib.hid h.len
  have HH := Lib.hid h
  clear h
  go_enter Tryz.func67, Tryz.ntmps67
  go_upto_region 1 with fail
  obtain ⟨W, hW, hB, hbx, hz⟩ := dbox_new w false false none 0 0 0
  rw [← hW]
  clear hW
  have HT := Lib.hid hT; clear hT
  have HT6 := Lib.hid hT6; clear hT6
  generalize hBe : w.heap.size = B at *
  have HBe := Lib.hid hBe
  have HEX : ∀ wx, Below B w wx → Ext w wx := fun wx h => by rw [← hBe] at h; exact h
  have HEX := Lib.hid HEX
  clear hBe
  go_wp2_with (refine wpList_make_dyads _ rfl _ _ rfl _ _ n n rfl rfl rfl rfl (by omega) (by omega) ?_)
  intro w1 hdb hw1 hsz1
  obtain ⟨hE, hE'⟩ := bnext hB (by omega) hw1
  have hbx := hbx.below hw1
  have hgB : B < W.heap.size := by omega
  generalize W.heap.size = g at *
  have htb : Tb w1 g n (List.replicate n DP.zero) 0 (l.map fdy) := ⟨hdb, by simp, Nat.zero_le _, fun i hi => absurd hi (Nat.not_lt_zero _)⟩
  clear hB hw1 hz hsz1 hdb
  go_wp2
  go_loopw [4, 5, 11] (fun _ _ ix wr => ∃ (j : Nat) (L : List DP), j ≤ n ∧ ix = .int .i64 j ∧ Tb wr g n L j (l.map fdy) ∧ Below B w wr ∧ DBox wr B false false none 0 0 0)
    (fun _ _ ix _ => n - (intOf ix).toNat)
  case atStart => exact ⟨0, _, Nat.zero_le _, rfl, htb, hE, hbx⟩
  case round =>
    obtain ⟨j, L, hj, rfl, htb, hE, hbr⟩ := hrel
    have hgl := htb.db.lt
    have hbl := hbr.lt
    by_cases hlt : j < n
    · have h := HH.out.below (HEX.out _ hE)
      obtain ⟨b, off, rfl, hc⟩ := h.cells (by omega)
      have hcj := hc j hlt
      have hfl := h.getD_lt j
      have hmap := map_getD (f := fdy) (l := l) (j := j) (by rw [HL.out]; exact hlt)
      obtain ⟨x, hx⟩ : ∃ x, l.getD j 0 = x := ⟨_, rfl⟩
      rw [hx] at hcj hfl hmap
      have HM := Lib.hid hmap
      clear hc h hx hmap
      go_wp2_with fail
      refine (fof_any x hfl wr (HT6.out.below (HEX.out _ hE))).mono ?_
      rintro e w2 ⟨v, rfl, hv, hw2⟩
      obtain ⟨rb, rn, ro, rk, rc, re, rfl⟩ := hv.parts
      have htb := htb.below hw2
      have hbr := hbr.below hw2
      obtain ⟨hE2, hE2'⟩ := bnext hE (by omega) hw2
      have hset := htb.set (p := ⟨rb, rn, ro, rk, rc, re⟩) (by rw [HM.out]; exact hv) hlt
      have ho := only_set4' w2 g (4 * j) ⟨rb, rn, ro, rk, rc, re⟩
      have hE3 := hE2.trans (ho.below (B := B) (by omega))
      have hbr3 := hbr.only ho (by omega)
      obtain ⟨c0, c1, c2, c3⟩ := htb.db.c j (by rw [htb.len]; exact hlt)
      have f0 := htb.db.f (4 * j)
      have f1 := htb.db.f (4 * j + 1)
      have f2 := htb.db.f (4 * j + 2)
      have f3 := htb.db.f (4 * j + 3)
      have e5 : j * 4 = 4 * j := by omega
      have HS := Lib.hid hset
      have HE3 := Lib.hid hE3
      have HB3 := Lib.hid hbr3
      clear hset hE3 hbr3 ho
      go_wp2
      go_roundw
      case rel => exact ⟨j + 1, _, by omega, by go_num, HS.out, HE3.out, HB3.out⟩
      case measure => simp [intOf] <;> omega
    · obtain rfl : j = n := by omega
      have hdsl := htb.sl (by simp [HL.out])
      have C := Lib.hid (dsum_any _ _ _ _ _ wr hdsl (HT.out.below (HEX.out _ hE)) (by omega))
      clear hdsl
      go_wp2_with fail
      refine C.out.mono ?_
      rintro e w4 ⟨v, rfl, hv, hw4⟩
      obtain ⟨rb, rn, ro2, rk, rc, re, rfl⟩ := hv.parts
      have bx := hbr.below hw4
      obtain ⟨hE4, hE4'⟩ := bnext hE (by omega) hw4
      clear hbr hE hw4 htb
      have q0 := bx.c0
      have q1 := bx.c1
      have q2 := bx.c2
      have q3 := bx.c3
      have f0 := bx.f 0
      have f1 := bx.f 1
      have f2 := bx.f 2
      have f3 := bx.f 3
      have hres := dn_stored bx hv w hE4 (Nat.le_refl B)
      have z3 := bx.stored rb rn ro2 rk rc re
      have z0 := z3.c0
      have z1 := z3.c1
      have z2 := z3.c2
      have z4 := z3.c3
      have HRES := Lib.hid hres; clear hres z3
      go_wp2
      refine bodyPost_ret (v := .agg #[.bool rb, .bool rn, .slice ro2 rk rc, .int .i64 re]) (by simp [results, Tryz.results67, go_sem, z0, z1, z2, z4]) rfl ⟨_, rfl, ?_, ?_⟩
      · exact HRES.out.1
      · show Below _ _ _; rw [HBe.out]; exact HRES.out.2
end Go.Proofs.YtjohpdobnedilaaGreatDoor

/- The sum of dyads that are integers of one unit. No program stands here. -/
namespace Go.Proofs.YtjohpdobnedilaaGreatDoor

/-- the sum of floats, in units of 2^-1074 -/
def sumF : List Nat → Int
  | [] => 0
  | f :: l => fzs f + sumF l
/-- the sum of products, in units of 2^-2148 -/
def dotF : List Nat → List Nat → Int
  | f :: l, g :: m => fzs f * fzs g + dotF l m
  | _, _ => 0

theorem sumF_is {l : List Nat} (h : ∀ f ∈ l, finB f = true) : IsL 1074 (l.map fdy) (sumF l) := by
  induction l with
  | nil => exact .nil
  | cons f l ih => exact .cons (fdy_is (h f List.mem_cons_self)) (ih fun g hg => h g (List.mem_cons_of_mem _ hg))
theorem sumF_lt {l : List Nat} (h : ∀ f ∈ l, finB f = true) : (sumF l).natAbs ≤ l.length * 2 ^ (52 + low46) := by
  induction l with
  | nil => simp [sumF]
  | cons f l ih =>
    have h1 := ih fun g hg => h g (List.mem_cons_of_mem _ hg)
    have h2 := fz_bound (h f List.mem_cons_self)
    rw [← fzs_abs] at h2
    have h3 := Int.natAbs_add_le (fzs f) (sumF l)
    simp only [sumF, List.length_cons, Nat.add_mul, Nat.one_mul]
    omega
theorem sumF_dy {l : List Nat} (h : ∀ f ∈ l, finB f = true) (hl : l.length ≤ 1000000) : Is (dtotal (l.map fdy)) 1074 (sumF l) := by
  have h1 := sumF_lt h
  refine dtotal_is (B := 20 + (52 + low46)) (sumF_is h) (by omega) ?_ (by rw [low46_le]; omega)
  have h2 : l.length * 2 ^ (52 + low46) ≤ 1000000 * 2 ^ (52 + low46) := Nat.mul_le_mul_right _ hl
  have h3 : 1000000 * 2 ^ (52 + low46) < 2 ^ 20 * 2 ^ (52 + low46) := Nat.mul_lt_mul_of_pos_right (by omega) (Nat.pow_pos (by omega))
  rw [← Nat.pow_add] at h3
  omega

theorem dotF_is {l m : List Nat} (h : ∀ f ∈ l, finB f = true) (h' : ∀ f ∈ m, finB f = true) : IsL (1074 + 1074) (List.zipWith (fun a b => dmul (fdy a) (fdy b)) l m) (dotF l m) := by
  induction l generalizing m with
  | nil => exact .nil
  | cons f l ih =>
    cases m with
    | nil => exact .nil
    | cons g m => exact .cons (fdy_mul (h f List.mem_cons_self) (h' g List.mem_cons_self)) (ih (fun x hx => h x (List.mem_cons_of_mem _ hx)) fun x hx => h' x (List.mem_cons_of_mem _ hx))
theorem dotF_lt {l m : List Nat} (h : ∀ f ∈ l, finB f = true) (h' : ∀ f ∈ m, finB f = true) : (dotF l m).natAbs ≤ l.length * 2 ^ ((52 + low46) + (52 + low46)) := by
  induction l generalizing m with
  | nil => simp [dotF]
  | cons f l ih =>
    cases m with
    | nil => simp [dotF]
    | cons g m =>
      have h1 := ih (m := m) (fun x hx => h x (List.mem_cons_of_mem _ hx)) fun x hx => h' x (List.mem_cons_of_mem _ hx)
      have h2 := fz_bound (h f List.mem_cons_self)
      have h2' := fz_bound (h' g List.mem_cons_self)
      rw [← fzs_abs] at h2 h2'
      have h4 := abs_mul_lt h2 h2'
      have h3 := Int.natAbs_add_le (fzs f * fzs g) (dotF l m)
      simp only [dotF, List.length_cons, Nat.add_mul, Nat.one_mul]
      omega
theorem dotF_dy {l m : List Nat} (h : ∀ f ∈ l, finB f = true) (h' : ∀ f ∈ m, finB f = true) (hl : l.length ≤ 1000000) : Is (dtotal (List.zipWith (fun a b => dmul (fdy a) (fdy b)) l m)) (1074 + 1074) (dotF l m) := by
  have h1 := dotF_lt h h'
  refine dtotal_is (B := 20 + ((52 + low46) + (52 + low46))) (dotF_is h h') (by omega) ?_ (by rw [low46_le]; omega)
  have h2 : l.length * 2 ^ ((52 + low46) + (52 + low46)) ≤ 1000000 * 2 ^ ((52 + low46) + (52 + low46)) := Nat.mul_le_mul_right _ hl
  have h3 : 1000000 * 2 ^ ((52 + low46) + (52 + low46)) < 2 ^ 20 * 2 ^ ((52 + low46) + (52 + low46)) := Nat.mul_lt_mul_of_pos_right (by omega) (Nat.pow_pos (by omega))
  rw [← Nat.pow_add] at h3
  omega

/-- a difference is zero, added to what was taken it is what it was -/
theorem Is.sub {d d' : Dy} {S : Nat} {N M : Int} (h : Is d S N) (h' : Is d' S M) (hS : S ≤ 65536) {B : Nat} (hb : (N - M).natAbs < 2 ^ B) (hB : B ≤ 65536) : Is (dsub d d') S (N - M) := by
  have := h.add h'.neg hS (B := B) (by rw [← Int.sub_eq_add_neg]; exact hb) hB
  rw [← Int.sub_eq_add_neg] at this
  exact this

theorem fdy_one : fdy 4607182418800017408 = some (1, 0) := by
  have h : fzs 4607182418800017408 = 1 * 2 ^ 1074 := by decide +kernel
  unfold fdy
  rw [if_pos (by decide), h, dmk_shift]
  exact dmk_norm (Or.inr ⟨by decide, by decide, by decide⟩)
end Go.Proofs.YtjohpdobnedilaaGreatDoor

/- What accum.withRest, TwoSum and TwoMul do. -/
namespace Go.Proofs.YtjohpdobnedilaaGreatDoor
open Go Go.RowKit

theorem ext_alloc {V w : World} (h : Ext V w) (o : Obj) : Ext V (w.alloc o) := Ext.trans h ((Below.refl _ _).alloc (Nat.le_refl _) _)
theorem dbox_after {w wn : World} {bb nb : Bool} {ao : Option Addr} {n ca : Nat} {f : Int} (h : Ext (w.alloc (.cells #[.bool bb, .bool nb, .slice ao n ca, .int .i64 f] 39)) wn) : DBox wn w.heap.size bb nb ao n ca f :=
  (DBox.new w bb nb ao n ca f).below h
theorem ext_ad (V : World) (o : Obj) : Ext V (V.alloc o).drew := ((Below.refl _ _).alloc (Nat.le_refl _) _).drew
theorem dbox_after2 {w wn : World} {bb nb : Bool} {ao : Option Addr} {n ca : Nat} {f : Int} (h : Ext (w.alloc (.cells #[.bool bb, .bool nb, .slice ao n ca, .int .i64 f] 39)).drew wn) : DBox wn w.heap.size bb nb ao n ca f :=
  DBox.ext (w := (w.alloc (.cells #[.bool bb, .bool nb, .slice ao n ca, .int .i64 f] 39)).drew) (DBox.new w bb nb ao n ca f) h
/-- a dyad stored in a block of the call's own -/
theorem box_stored {W w : World} {g : Nat} {bb nb mbb mb : Bool} {ao bo : Option Addr} {n ca m cb : Nat} {e f : Int} {d : Dy} (hx : DBox w g bb nb ao n ca e) (h : Dn w (.agg #[.bool mbb, .bool mb, .slice bo m cb, .int .i64 f]) d) (hw : Ext W w) (hg : W.heap.size ≤ g) :
    Dn ((((w.setCell ⟨g, 0, none⟩ (.bool mbb)).setCell ⟨g, 1, none⟩ (.bool mb)).setCell ⟨g, 2, none⟩ (.slice bo m cb)).setCell ⟨g, 3, none⟩ (.int .i64 f)) (.agg #[.bool mbb, .bool mb, .slice bo m cb, .int .i64 f]) d ∧
    DBox ((((w.setCell ⟨g, 0, none⟩ (.bool mbb)).setCell ⟨g, 1, none⟩ (.bool mb)).setCell ⟨g, 2, none⟩ (.slice bo m cb)).setCell ⟨g, 3, none⟩ (.int .i64 f)) g mbb mb bo m cb f ∧
    Ext W ((((w.setCell ⟨g, 0, none⟩ (.bool mbb)).setCell ⟨g, 1, none⟩ (.bool mb)).setCell ⟨g, 2, none⟩ (.slice bo m cb)).setCell ⟨g, 3, none⟩ (.int .i64 f)) :=
  ⟨h.only_dbox hx (only_set4 _ _ _ _ _ _), hx.stored _ _ _ _ _ _, Below.trans hw ((only_set4 w g (.bool mbb) (.bool mb) (.slice bo m cb) (.int .i64 f)).below hg)⟩

/-- is the rest of d behind f the number of a float -/
def rest (f : Nat) (d : Dy) : Nat := frdF (dsub d (fdy f)) 0
def restB (f : Nat) (d : Dy) : Bool := decide (dsub d (fdy f) ≠ none) && decide (fdy (rest f d) ≠ none) && decide (sgn3 (sc (fdy (rest f d))) (sc (dsub d (fdy f))) = 0)

set_option maxRecDepth 100000 in
set_option maxHeartbeats 8000000 in
theorem withRest_any (f : Nat) (hf : f < 18446744073709551616) (v : Value) (d : Dy) (w : World) (hv : Dg w v d) (hT : Table w) (hT6 : Table64 w) (t : Nat) (b : Bool) (ht : rest f d = t) (hb : restB f d = b) :
    Calls Tryz.prog 56 #[.int .u64 (f : Int), v] w fun e w' => e = .returned (.tuple (if b then #[.int .u64 (f : Int), .int .u64 (t : Int), .bool true] else #[.int .u64 0, .int .u64 0, .bool false])) ∧ Ext w w' := by
  have htl : t < 18446744073709551616 := by rw [← ht]; exact frdF_lt _ _
  obtain ⟨df, hdf⟩ : ∃ df, fdy f = df := ⟨_, rfl⟩
  obtain ⟨dr, hdr⟩ : ∃ dr, dsub d df = dr := ⟨_, rfl⟩
  obtain ⟨dt, hdt⟩ : ∃ dt, fdy t = dt := ⟨_, rfl⟩
  have hfr : frdF dr 0 = t := by rw [← ht, ← hdr, ← hdf]; rfl
  have hbb : (decide (dr ≠ none) && decide (dt ≠ none) && decide (sgn3 (sc dt) (sc dr) = 0)) = b := by
    rw [← hb]; unfold restB; rw [ht, hdf, hdr, hdt]
  obtain ⟨c, ok, hci⟩ := dcmpIs_any dt dr
  have hcb : (ok && decide (c = 0)) = b := by
    rw [← hbb]
    rcases hci with ⟨h1, h2, h3⟩ | ⟨h1, h2, h3, h4⟩
    · rw [h3]
      rcases h1 with h1 | h1 <;> simp [h1]
    · rw [h4, h3]; simp [h1, h2]
  have CF := Lib.hid (fun W (hE : Ext w W) => fof_at (f := f) hf hdf W (hT6.below hE))
  have CT := Lib.hid (fun W (hE : Ext w W) => fof_at (f := t) htl hdt W (hT6.below hE))
  have HTT := Lib.hid (fun W (hE : Ext w W) => hT.below hE)
  have HDR := Lib.hid hdr
  have HFR := Lib.hid hfr
  have HCI := Lib.hid hci
  have HCB := Lib.hid hcb
  obtain ⟨ub, un, uo, uk, uc, uf, rfl⟩ := Dg.parts hv
  clear ht hb hdf hdr hdt hfr hbb hci hcb hT hT6
  go_enter Tryz.func56, Tryz.ntmps56
  go_upto_region 1 with fail
  obtain ⟨W, hW, hB, hbx, hz⟩ := dbox_new w ub un uo uk uc uf
  rw [← hW]
  clear hW
  have hv := hv.ext hB
  have HB := Lib.hid (show Ext w W from hB)
  clear hB
  generalize w.heap.size = B at *
  have k0 := hbx.c0
  have k1 := hbx.c1
  have k2 := hbx.c2
  have k3 := hbx.c3
  have hex : Ext W W.drew := (Below.refl _ _).drew
  have C1 := Lib.hid (fun wx (hx : Ext W wx) => CF.out wx (Ext.trans HB.out hx))
  have HTV := Lib.hid (fun wx (hx : Ext W wx) => HTT.out wx (Ext.trans HB.out hx))
  have HC : ∀ wx, Ext W wx → wx.cell? ⟨B, 0, none⟩ = some (.bool ub) ∧ wx.cell? ⟨B, 1, none⟩ = some (.bool un) ∧ wx.cell? ⟨B, 2, none⟩ = some (.slice uo uk uc) ∧ wx.cell? ⟨B, 3, none⟩ = some (.int .i64 uf) := fun wx h => ⟨(hbx.ext h).c0, (hbx.ext h).c1, (hbx.ext h).c2, (hbx.ext h).c3⟩
  have HC := Lib.hid HC
  go_cut [7] from 11 (fun p wx => ∃ rb rn ro rk rc re C, p = .pointer (some ⟨C, 0, none⟩) ∧ Dn wx (.agg #[.bool rb, .bool rn, .slice ro rk rc, .int .i64 re]) dr ∧ DBox wx C rb rn ro rk rc re ∧ Ext w wx)
  case first =>
    go_region_held3 (fun wx => wx.cell? ⟨B, 0, none⟩ = some (.bool ub) ∧ wx.cell? ⟨B, 1, none⟩ = some (.bool un) ∧ wx.cell? ⟨B, 2, none⟩ = some (.slice uo uk uc) ∧ wx.cell? ⟨B, 3, none⟩ = some (.int .i64 uf))
      (first | exact HC.out _ (by first | assumption | exact ext_alloc (by assumption) _ | exact ext_ad _ _))
      (first
      | (go_at_call 25; ((with_reducible refine (C1.out _ (by first | assumption | exact ext_alloc (by assumption) _ | exact ext_ad _ _)).mono ?_); rintro e w2 ⟨v1, rfl, hv1, hw2⟩; have ex1 : Ext W w2 := Ext.trans (by first | assumption | exact ext_alloc (by assumption) _ | exact ext_ad _ _) hw2; first | (have bz := dbox_after2 (w := W) hw2; have y0 := bz.c0; have y1 := bz.c1; have y2 := bz.c2; have y3 := bz.c3) | skip))
      | (go_at_call 134; refine (dsub_any _ _ _ _ _ (by exact hv.ext (by first | assumption | exact ext_alloc (by assumption) _ | exact ext_ad _ _)) (by first | exact hv1.dg | exact (hv1.ext (ext_alloc (Ext.refl _) _)).dg) (by exact HTV.out _ (by first | assumption | exact ext_alloc (by assumption) _ | exact ext_ad _ _))).mono ?_; rintro e w3 ⟨v3, rfl, hv3, hw3⟩; have ex2 : Ext W w3 := Ext.trans (by first | assumption | exact ext_alloc (by assumption) _ | exact ext_ad _ _) hw3; rw [HDR.out] at hv3; obtain ⟨rb, rn, ro, rk, rc, re, rfl⟩ := hv3.parts; first | (have bz := dbox_after (w := w2) hw3; have y0 := bz.c0; have y1 := bz.c1; have y2 := bz.c2; have y3 := bz.c3; have g0 := bz.f 0; have g1 := bz.f 1; have g2 := bz.f 2; have g3 := bz.f 3; obtain ⟨st1, st2, st3⟩ := box_stored (W := W) bz hv3 ex2 ex1.size) | (have bz := bz.ext hw3; have y0 := bz.c0; have y1 := bz.c1; have y2 := bz.c2; have y3 := bz.c3; have g0 := bz.f 0; have g1 := bz.f 1; have g2 := bz.f 2; have g3 := bz.f 3; obtain ⟨st1, st2, st3⟩ := box_stored (W := W) bz hv3 ex2 (Nat.le_refl _)) | skip))
    all_goals
      go_wp2
      go_meet
    all_goals
      first
        | exact ⟨rb, rn, ro, rk, rc, re, _, rfl, st1, st2, Ext.trans HB.out st3⟩
        | exact ⟨rb, rn, ro, rk, rc, re, _, rfl, hv3.ext (ext_alloc (Ext.refl _) _), DBox.new _ rb rn ro rk rc re, Ext.trans HB.out (ext_alloc ex2 _)⟩
  case rest =>
    obtain ⟨rb, rn, ro, rk, rc, re, C, rfl, hr, hbr, hE⟩ := hcut
    clear k0 k1 k2 k3 hbx hv C1 HTV HC hz
    have k0 := hbr.c0
    have k1 := hbr.c1
    have k2 := hbr.c2
    have k3 := hbr.c3
    go_wp2_with fail
    refine (frd_at hr.dg (HTT.out _ hE) HFR.out).mono ?_
    rintro e w4 ⟨rfl, hw4⟩
    have hr := hr.ext hw4
    have hbr := hbr.ext hw4
    have hE := Ext.trans hE hw4
    clear k0 k1 k2 k3 hw4
    have k0 := hbr.c0
    have k1 := hbr.c1
    have k2 := hbr.c2
    have k3 := hbr.c3
    have HE := Lib.hid hE
    have hex4 : Ext w4 w4.drew := (Below.refl _ _).drew
    have C1 := Lib.hid (fun wx (hx : Ext w4 wx) => CT.out wx (Ext.trans HE.out hx))
    have HTV := Lib.hid (fun wx (hx : Ext w4 wx) => HTT.out wx (Ext.trans HE.out hx))
    have HC : ∀ wx, Ext w4 wx → wx.cell? ⟨C, 0, none⟩ = some (.bool rb) ∧ wx.cell? ⟨C, 1, none⟩ = some (.bool rn) ∧ wx.cell? ⟨C, 2, none⟩ = some (.slice ro rk rc) ∧ wx.cell? ⟨C, 3, none⟩ = some (.int .i64 re) := fun wx h => ⟨(hbr.ext h).c0, (hbr.ext h).c1, (hbr.ext h).c2, (hbr.ext h).c3⟩
    have HC := Lib.hid HC
    clear hE
    go_upto_region 3 with fail
    go_region_held3 (fun wx => wx.cell? ⟨C, 0, none⟩ = some (.bool rb) ∧ wx.cell? ⟨C, 1, none⟩ = some (.bool rn) ∧ wx.cell? ⟨C, 2, none⟩ = some (.slice ro rk rc) ∧ wx.cell? ⟨C, 3, none⟩ = some (.int .i64 re))
      (first | exact HC.out _ (by assumption))
      (first
      | (go_at_call 25; (with_reducible refine (C1.out _ (by assumption)).mono ?_); rintro e w5 ⟨v1, rfl, hv1, hw5⟩; have ex5 : Ext w4 w5 := Ext.trans hex4 hw5)
      | (go_at_call 95; refine (dcmp_at hv1.dg (by exact (hr.ext ex5).dg) (by exact HTV.out _ ex5) HCI.out).mono ?_; rintro e w6 ⟨rfl, hw6⟩; have ex6 : Ext w4 w6 := Ext.trans ex5 hw6))
    have HF := Lib.hid (Ext.trans HE.out ex6)
    cases ok with
    | false =>
      obtain rfl : b = false := by rw [← HCB.out]; rfl
      go_wp2
      exact bodyPost_ret (v := .tuple #[.int .u64 0, .int .u64 0, .bool false]) (by simp [results, Tryz.results56, go_sem]) rfl ⟨rfl, HF.out⟩
    | true =>
      by_cases hc0 : c = 0
      · obtain rfl : b = true := by rw [← HCB.out]; simp [hc0]
        subst hc0
        go_wp2
        exact bodyPost_ret (v := .tuple #[.int .u64 (f : Int), .int .u64 (t : Int), .bool true]) (by simp [results, Tryz.results56, go_sem]) rfl ⟨rfl, HF.out⟩
      · obtain rfl : b = false := by rw [← HCB.out]; simp [hc0]
        have hc1 : (c != 0) = true := by simpa using hc0
        clear hc0
        go_wp2
        exact bodyPost_ret (v := .tuple #[.int .u64 0, .int .u64 0, .bool false]) (by simp [results, Tryz.results56, go_sem]) rfl ⟨rfl, HF.out⟩

/-- what the pairs return -/
def pairV (f t : Nat) (b : Bool) : Value := .tuple (if b then #[.int .u64 (f : Int), .int .u64 (t : Int), .bool true] else #[.int .u64 0, .int .u64 0, .bool false])

set_option maxRecDepth 100000 in
set_option maxHeartbeats 4000000 in
theorem twoSum_any (a b : Nat) (ha : a < 18446744073709551616) (hb : b < 18446744073709551616) (w : World) (hT : Table w) (hT6 : Table64 w) (f t : Nat) (ok : Bool) (hf : faddF a b 0 = f) (ht : rest f (dadd (fdy a) (fdy b)) = t) (hok : restB f (dadd (fdy a) (fdy b)) = ok) :
    Calls Tryz.prog 7 #[.int .u64 (a : Int), .int .u64 (b : Int)] w fun e w' => e = .returned (pairV f t ok) ∧ Ext w w' := by
  have hfl : f < 18446744073709551616 := by rw [← hf]; exact fadd_lt _ hb
  obtain ⟨da, hda⟩ : ∃ d, fdy a = d := ⟨_, rfl⟩
  obtain ⟨db, hdb⟩ : ∃ d, fdy b = d := ⟨_, rfl⟩
  rw [hda, hdb] at ht hok
  have HF := Lib.hid hf
  have CA := Lib.hid (fun W (hE : Ext w W) => fof_at (f := a) ha hda W (hT6.below hE))
  have CB := Lib.hid (fun W (hE : Ext w W) => fof_at (f := b) hb hdb W (hT6.below hE))
  have HTT := Lib.hid (fun W (hE : Ext w W) => hT.below hE)
  have HT6 := Lib.hid (fun W (hE : Ext w W) => hT6.below hE)
  have H1 := Lib.hid ht
  have H2 := Lib.hid hok
  clear hf hda hdb ht hok hT hT6
  go_enter Tryz.func7, Tryz.ntmps7
  go_wp2_with fail
  refine (addF_at ha hb HF.out w).mono ?_
  rintro e w1 ⟨rfl, h1⟩
  go_wp2_with fail
  refine (CA.out _ h1).mono ?_
  rintro e w2 ⟨v1, rfl, hv1, hw2⟩
  have h2 := Ext.trans h1 hw2
  go_wp2_with fail
  refine (CB.out _ h2).mono ?_
  rintro e w3 ⟨v2, rfl, hv2, hw3⟩
  have h3 := Ext.trans h2 hw3
  have hv1 := hv1.ext hw3
  go_wp2_with fail
  refine (dadd_any _ _ _ _ _ hv1.dg hv2.dg (HTT.out _ h3)).mono ?_
  rintro e w4 ⟨v3, rfl, hv3, hw4⟩
  have h4 := Ext.trans h3 hw4
  go_wp2_with fail
  refine (withRest_any f hfl _ _ _ hv3.dg (HTT.out _ h4) (HT6.out _ h4) t ok H1.out H2.out).mono ?_
  rintro e w5 ⟨rfl, hw5⟩
  have HE := Lib.hid (Ext.trans h4 hw5)
  clear h1 h2 h3 h4 hw2 hw3 hw4 hw5 hv1 hv2 hv3
  cases ok with
  | false =>
    go_wp2
    exact bodyPost_ret (v := .tuple #[.int .u64 0, .int .u64 0, .bool false]) (by simp [results, Tryz.results7, go_sem]) rfl ⟨rfl, HE.out⟩
  | true =>
    go_wp2
    exact bodyPost_ret (v := .tuple #[.int .u64 (f : Int), .int .u64 (t : Int), .bool true]) (by simp [results, Tryz.results7, go_sem]) rfl ⟨rfl, HE.out⟩

set_option maxRecDepth 100000 in
set_option maxHeartbeats 4000000 in
theorem twoMul_any (a b : Nat) (ha : a < 18446744073709551616) (hb : b < 18446744073709551616) (w : World) (hT : Table w) (hT6 : Table64 w) (f t : Nat) (ok : Bool) (hf : fmulF a b 0 = f) (ht : rest f (dmul (fdy a) (fdy b)) = t) (hok : restB f (dmul (fdy a) (fdy b)) = ok) :
    Calls Tryz.prog 9 #[.int .u64 (a : Int), .int .u64 (b : Int)] w fun e w' => e = .returned (pairV f t ok) ∧ Ext w w' := by
  have hfl : f < 18446744073709551616 := by rw [← hf]; exact fmul_lt _
  have hsm := fdy_small a
  obtain ⟨da, hda⟩ : ∃ d, fdy a = d := ⟨_, rfl⟩
  obtain ⟨db, hdb⟩ : ∃ d, fdy b = d := ⟨_, rfl⟩
  rw [hda, hdb] at ht hok
  rw [hda] at hsm
  have HSM := Lib.hid hsm
  have HF := Lib.hid hf
  have CA := Lib.hid (fun W (hE : Ext w W) => fof_at (f := a) ha hda W (hT6.below hE))
  have CB := Lib.hid (fun W (hE : Ext w W) => fof_at (f := b) hb hdb W (hT6.below hE))
  have HTT := Lib.hid (fun W (hE : Ext w W) => hT.below hE)
  have HT6 := Lib.hid (fun W (hE : Ext w W) => hT6.below hE)
  have H1 := Lib.hid ht
  have H2 := Lib.hid hok
  clear hf hda hdb ht hok hT hT6 hsm
  go_enter Tryz.func9, Tryz.ntmps9
  go_wp2_with fail
  refine (mulF_at ha hb HF.out w).mono ?_
  rintro e w1 ⟨rfl, h1⟩
  go_wp2_with fail
  refine (CA.out _ h1).mono ?_
  rintro e w2 ⟨v1, rfl, hv1, hw2⟩
  have h2 := Ext.trans h1 hw2
  go_wp2_with fail
  refine (CB.out _ h2).mono ?_
  rintro e w3 ⟨v2, rfl, hv2, hw3⟩
  have h3 := Ext.trans h2 hw3
  have hv1 := hv1.ext hw3
  go_wp2_with fail
  refine (dmul_any _ _ _ _ _ hv1.dg hv2.dg (HTT.out _ h3) (Or.inl HSM.out)).mono ?_
  rintro e w4 ⟨v3, rfl, hv3, hw4⟩
  have h4 := Ext.trans h3 hw4
  go_wp2_with fail
  refine (withRest_any f hfl _ _ _ hv3.dg (HTT.out _ h4) (HT6.out _ h4) t ok H1.out H2.out).mono ?_
  rintro e w5 ⟨rfl, hw5⟩
  have HE := Lib.hid (Ext.trans h4 hw5)
  clear h1 h2 h3 h4 hw2 hw3 hw4 hw5 hv1 hv2 hv3
  cases ok with
  | false =>
    go_wp2
    exact bodyPost_ret (v := .tuple #[.int .u64 0, .int .u64 0, .bool false]) (by simp [results, Tryz.results9, go_sem]) rfl ⟨rfl, HE.out⟩
  | true =>
    go_wp2
    exact bodyPost_ret (v := .tuple #[.int .u64 (f : Int), .int .u64 (t : Int), .bool true]) (by simp [results, Tryz.results9, go_sem]) rfl ⟨rfl, HE.out⟩
end Go.Proofs.YtjohpdobnedilaaGreatDoor

/- The error-free transformations, as plain facts. No program stands here. -/
namespace Go.Proofs.YtjohpdobnedilaaGreatDoor

theorem frdF_of {d : Dy} {R : Int} (h : Is d 1074 R) (hR : R ≠ 0) (mode : Int) : frdF d mode = rnd R (-1074) mode := by
  obtain ⟨m, e, rfl, _, h2, rfl⟩ := h
  have hm : m ≠ 0 := by rintro rfl; simp at hR
  show rz m e mode = _
  unfold rz
  rw [if_neg hm]
  have := rnd_up hm (e + ((1074 : Nat) : Int)).toNat e mode
  rw [← this]
  congr 1
  omega

/-- what has room in a float is rounded to itself -/
theorem frd_room {d : Dy} {R : Int} {K j : Nat} (h : Is d 1074 R) (hK : R.natAbs = K * 2 ^ j) (hK1 : K < 9007199254740992) (hlt : R.natAbs < fz 9218868437227405312) (mode : Int) : fdy (frdF d mode) = d := by
  by_cases hR : R = 0
  · subst hR
    obtain ⟨m, e, rfl, h1, h2, h3⟩ := h
    have hm : m = 0 := by
      rcases Int.mul_eq_zero.1 h3.symm with h | h
      · exact h
      · exact absurd h (Int.ne_of_gt (two_pos _))
    subst hm
    rcases h1 with ⟨_, rfl⟩ | ⟨h1, _⟩
    · show fdy (rz 0 0 mode) = _
      unfold rz
      rw [if_pos rfl]
      exact fdy_zero (by decide)
    · simp at h1
  · rw [frdF_of h hR]
    obtain ⟨_, h2, h3, h4⟩ := rnd_facts R (-1074) mode
    obtain ⟨h5, h6⟩ := fla_room hK (by omega) hK1 hlt (decide (R < 0)) mode
    generalize rnd R (-1074) mode = f at *
    rw [← h4] at h5 h6
    rw [fz_mag] at h6
    have hfz : fzs f = R := by
      unfold fzs
      rw [h3, h6]
      by_cases h : R < 0
      · simp [h]; omega
      · simp [h]; omega
    unfold fdy
    rw [if_pos (show finB f = true from decide_eq_true h5), hfz]
    exact h.mk.symm

theorem fzs_lt {f : Nat} (h : finB f = true) : (fzs f).natAbs < 2 ^ (52 + low46) := by
  have := fz_bound h
  rw [← fzs_abs] at this
  exact this

theorem abs_sub_lt {x y : Int} {B : Nat} (hx : x.natAbs < 2 ^ B) (hy : y.natAbs < 2 ^ B) : (x - y).natAbs < 2 ^ (B + 1) := by
  have := abs_add_lt hx (y := -y) (by rw [Int.natAbs_neg]; exact hy)
  rwa [← Int.sub_eq_add_neg] at this
theorem fdy_nd (f : Nat) : Nd (fdy f) := by
  unfold fdy
  split
  · exact dmk_nd _ _
  · trivial

/-- a sum and its rest -/
theorem free_sum {a b s : Nat} (ha : finB a = true) (hb : finB b = true) (hbl : b < 18446744073709551616) (hs : faddF a b 0 = s) :
    restB s (dadd (fdy a) (fdy b)) = finB s ∧ (finB s = true → dadd (fdy s) (fdy (rest s (dadd (fdy a) (fdy b)))) = dadd (fdy a) (fdy b)) := by
  have hV : Is (dadd (fdy a) (fdy b)) 1074 (fzs a + fzs b) := (fdy_is ha).add (fdy_is hb) (by omega) (abs_add_lt (fzs_lt ha) (fzs_lt hb)) (by rw [low46_le]; omega)
  cases hf : finB s with
  | false =>
    refine ⟨?_, fun h => by cases h⟩
    unfold restB
    have : fdy s = none := by unfold fdy; rw [hf]; rfl
    rw [this, dsub_none']
    simp
  | true =>
    have hVb := abs_add_lt (fzs_lt ha) (fzs_lt hb)
    obtain ⟨V, hVe⟩ : ∃ V, fzs a + fzs b = V := ⟨_, rfl⟩
    rw [hVe] at hV hVb
    have hrank := add_rank 0 ha hb hbl
    rw [hs, hVe] at hrank
    have hsn := fin_nan hf
    have hzn := (rz_facts V (-1074) 0).1
    have hfzs : fzs s = fzs (rz V (-1074) 0) := by
      have := (fs_rank (T := 1074) hsn hzn).2.2 hrank
      rw [fs_fzs, fs_fzs] at this
      exact this
    have hR : Is (dsub (dadd (fdy a) (fdy b)) (fdy s)) 1074 (V - fzs s) :=
      Is.sub hV (fdy_is hf) (by omega) (B := 52 + low46 + 1 + 1) (abs_sub_lt hVb (lt_up (fzs_lt hf))) (by rw [low46_le]; omega)
    have hroom : ∃ K j, (V - fzs s).natAbs = K * 2 ^ j ∧ K < 9007199254740992 ∧ (V - fzs s).natAbs < fz 9218868437227405312 := by
      by_cases h0 : V = 0
      · have hz : fzs s = 0 := by rw [hfzs, h0]; show fzs (rz 0 (-1074) 0) = 0; unfold rz; rw [if_pos rfl]; decide
        rw [h0, hz]
        exact ⟨0, 0, by simp, by omega, by rw [fz_inf]; exact Nat.mul_pos (Nat.pow_pos (by omega)) (Nat.pow_pos (by omega))⟩
      · have hrz : rz V (-1074) 0 = rnd V (-1074) 0 := by unfold rz; rw [if_neg h0]
        rw [hrz] at hfzs hrank
        obtain ⟨_, _, h3, h4⟩ := rnd_facts V (-1074) 0
        obtain ⟨hr1, hr2⟩ := fin_rank hf
        rw [hrank] at hr1 hr2
        generalize rnd V (-1074) 0 = f at *
        have hfl : fla (decide (V < 0)) V.natAbs (-1074) false 0 < 9218868437227405312 := by
          rw [← h4]
          unfold frank at hr1 hr2
          cases hfn : fneg f <;> rw [hfn] at hr1 hr2 <;> simp at hr1 hr2 <;> omega
        obtain ⟨K, j, k1, k2, k3⟩ := sum_rest ha hb hVe.symm h0 (decide (V < 0)) h4.symm (by rw [h4]; exact hfl)
        rw [fz_mag] at k1 k3
        have hd : (V - fzs s).natAbs = dist V.natAbs (fz f) := by
          rw [hfzs]
          unfold dist fzs
          rw [h3]
          by_cases h : V < 0
          · simp [h]; omega
          · simp [h]; omega
        rw [hd]
        exact ⟨K, j, k1, k2, k3⟩
    obtain ⟨K, j, k1, k2, k3⟩ := hroom
    have hfr := frd_room hR k1 k2 k3 0
    have hrest : fdy (rest s (dadd (fdy a) (fdy b))) = dsub (dadd (fdy a) (fdy b)) (fdy s) := hfr
    have hne : dsub (dadd (fdy a) (fdy b)) (fdy s) ≠ none := by obtain ⟨m, e, h1, _⟩ := hR; rw [h1]; simp
    refine ⟨?_, fun _ => ?_⟩
    · unfold restB
      rw [hrest]
      simp [hne, sgn3]
    · rw [hrest]
      have := (fdy_is hf).add hR (by omega) (B := 52 + low46 + 1) (by rw [show fzs s + (V - fzs s) = V by omega]; exact hVb) (by rw [low46_le]; omega)
      rw [show fzs s + (V - fzs s) = V by omega] at this
      exact this.unique hV

/-- a product and its rest, where there is one -/
theorem free_mul {a b p : Nat} (ha : finB a = true) (hb : finB b = true) (h : restB p (dmul (fdy a) (fdy b)) = true) :
    dadd (fdy p) (fdy (rest p (dmul (fdy a) (fdy b)))) = dmul (fdy a) (fdy b) := by
  have hD := fdy_mul ha hb
  have hDb := abs_mul_lt (fzs_lt ha) (fzs_lt hb)
  unfold restB at h
  simp only [Bool.and_eq_true, decide_eq_true_eq] at h
  obtain ⟨⟨h1, h2⟩, h3⟩ := h
  have hp : finB p = true := by
    cases hf : finB p with
    | true => rfl
    | false =>
      exfalso; apply h1
      have : fdy p = none := by unfold fdy; rw [hf]; rfl
      rw [this, dsub_none']
  have hP := fdy_up hp
  have hPb : (fzs p * 2 ^ low74).natAbs < 2 ^ (52 + low46 + 1074) := pow_bound (fzs_lt hp) (Nat.le_refl _)
  have hN : Nd (fdy (rest p (dmul (fdy a) (fdy b)))) := fdy_nd _
  obtain ⟨A, hA⟩ : ∃ A, fzs a * fzs b = A := ⟨_, rfl⟩
  obtain ⟨Q, hQ⟩ : ∃ Q, fzs p * 2 ^ low74 = Q := ⟨_, rfl⟩
  rw [hA] at hD hDb
  rw [hQ] at hP hPb
  have e1 : (52 + low46 + 1074 : Nat) ≤ 52 + low46 + (52 + low46) := by rw [low46_le]; omega
  have hQb : Q.natAbs < 2 ^ (52 + low46 + (52 + low46)) := Nat.lt_of_lt_of_le hPb (Nat.pow_le_pow_right (by omega) e1)
  have hR := Is.sub hD hP (by omega) (B := 52 + low46 + (52 + low46) + 1) (abs_sub_lt hDb hQb) (by rw [low46_le]; omega)
  have heq : fdy (rest p (dmul (fdy a) (fdy b))) = dsub (dmul (fdy a) (fdy b)) (fdy p) := by
    refine sc_inj hN hR.nd h2 h1 ?_
    unfold sgn3 at h3
    split at h3
    · omega
    · split at h3 <;> omega
  rw [heq]
  have := hP.add hR (by omega) (B := 52 + low46 + (52 + low46)) (by rw [show Q + (A - Q) = A by omega]; exact hDb) (by rw [low46_le]; omega)
  rw [show Q + (A - Q) = A by omega] at this
  exact this.unique hD
end Go.Proofs.YtjohpdobnedilaaGreatDoor

/- What the reference's FromInt does at 2^60, and its Neg. -/
namespace Go.Proofs.YtjohpdobnedilaaGreatDoor
open Go Go.RowKit

theorem refFNeg_any (f : Nat) (hf : f < 18446744073709551616) (hn : nanB f = false) (hs : fneg f = false) (w : World) :
    Calls Tryz.prog 21 #[.int .u64 (f : Int)] w fun e w' => e = .returned (.int .u64 ((9223372036854775808 + f : Nat) : Int)) ∧ w = w' := by
  have hlt : f < 9223372036854775808 := by unfold fneg at hs; simpa using hs
  have hx : bits BinOp.xor IntKind.u64 (f : Int) 9223372036854775808 = ((9223372036854775808 + f : Nat) : Int) := by
    rw [xor_sign hf, hs, show fmag f = f from Nat.mod_eq_of_lt hlt]; rfl
  clear hlt
  go_enter Tryz.func21, Tryz.ntmps21
  go_wp2_with fail
  refine (refNan_any f hf false hn w).mono ?_
  rintro e w1 ⟨rfl, rfl⟩
  go_wp2
  go_ret
  exact ⟨rfl, rfl⟩

theorem dmk_60 : dmk 1152921504606846976 0 = some (1, 60) := by
  have := dmk_shift 1 0 60
  rw [show (1 : Int) * 2 ^ 60 = 1152921504606846976 by decide] at this
  rw [this]
  exact dmk_norm (Or.inr ⟨by decide, by decide, by decide⟩)

set_option maxRecDepth 100000 in
set_option maxHeartbeats 4000000 in
theorem refRounded_60 (nb : Bool) (ao : Option Addr) (n ca : Nat) (w : World) (h : Bg w nb ao n ca 1) :
    Calls Tryz.prog 155 #[.bool false, .agg #[.bool nb, .slice ao n ca], .int .i64 60, .bool false, .int .i64 0] w fun e w' => e = .returned (.int .u64 4877398396442247168) ∧ Ext w w' := by
  go_enter Tryz.func155, Tryz.ntmps155
  go_upto_region 1 with fail
  obtain ⟨W, hW, hB, hbx, hz⟩ := box_new w nb ao n ca
  rw [← hW]
  clear hW
  have h := h.below hB
  generalize hBe : w.heap.size = B at *
  have HBe := Lib.hid hBe
  clear hBe
  have k0 := hbx.c0
  have k1 := hbx.c1
  go_wp2_with fail
  refine (refBitLen_any _ _ _ _ _ _ h).mono ?_
  rintro e w1 ⟨rfl, hw1⟩
  rw [show ((blen (1 : Int).natAbs : Nat) : Int) = 1 by decide]
  have hbx := hbx.below hw1
  have h := h.below hw1
  obtain ⟨hE, hE'⟩ := bnext hB (by omega) hw1
  clear k0 k1 hw1 hB
  have k0 := hbx.c0
  have k1 := hbx.c1
  have hmx : max (8 : Int) (-1074) = 8 := by decide
  go_upto_region 6 with fail
  obtain ⟨V, hV, hVB, hvx, hvz⟩ := box_new w1 false none 0 0
  rw [← hV]
  clear hV
  have hbx := hbx.below hVB
  have h := h.below hVB
  obtain ⟨hE, hE2⟩ := bnext hE hE' hVB
  clear k0 k1 hVB
  generalize w1.heap.size = C at *
  have k0 := hbx.c0
  have k1 := hbx.c1
  go_wp2_with fail
  refine (refShift_up _ _ _ _ _ 52 _ h (by omega)).mono ?_
  rintro e w2 ⟨nr, ro, k, cr, rfl, hr, _, hw2⟩
  rw [show (1 : Int) * 2 ^ 52 = 4503599627370496 by decide] at hr
  have hvx := hvx.below hw2
  obtain ⟨hE, hE2⟩ := bnext hE hE2 hw2
  clear k0 k1 hbx h hvz hz hw2
  have v0 := hvx.c0
  have v1 := hvx.c1
  have f0 := hvx.f 0
  have f1 := hvx.f 1
  have hfit : fitsI 4503599627370496 = true ∧ intOut 4503599627370496 = 4503599627370496 := fits_yes (by omega)
  go_upto_region 9 with fail
  have ho := only_set2 w2 C (.bool nr) (.slice ro k cr)
  have hr := hr.only_box hvx ho
  have hvx := hvx.stored nr ro k cr
  have hE3 := hE.trans (ho.below (B := B) hE')
  have hz3 := ho.size
  clear ho v0 v1 f0 f1 hE
  generalize (w2.setCell ⟨C, 0, none⟩ (.bool nr)).setCell ⟨C, 1, none⟩ (.slice ro k cr) = w3 at *
  have v0 := hvx.c0
  have v1 := hvx.c1
  go_wp2_with fail
  refine (refInt_any _ _ _ _ _ _ (bn_bg_of hr (by decide))).mono ?_
  rintro e w4 ⟨rfl, hw4⟩
  rw [hfit.1, hfit.2]
  obtain ⟨hE4, _⟩ := bnext hE3 (by omega) hw4
  have HE := Lib.hid (show Ext w w4 by unfold Ext; rw [HBe.out]; exact hE4)
  clear hfit hr hvx v0 v1 hw4 hE4 hE3
  have hbor : bits BinOp.or IntKind.u64 4877398396442247168 0 = 4877398396442247168 := by decide
  go_wp2
  go_ret
  exact ⟨rfl, HE.out⟩

set_option maxRecDepth 100000 in
set_option maxHeartbeats 4000000 in
theorem refRound_60 (v : Value) (w : World) (hv : Dn w v (some (1, 60))) (hT : Table w) :
    Calls Tryz.prog 86 #[v, .int .i64 0] w fun e w' => e = .returned (.int .u64 4877398396442247168) ∧ Ext w w' := by
  obtain ⟨ub, un, uo, uk, uc, uf, rfl⟩ := hv.parts
  go_enter Tryz.func86, Tryz.ntmps86
  go_upto_region 1 with fail
  obtain ⟨W, hW, hB, hbx, hz⟩ := dbox_new w ub un uo uk uc uf
  rw [← hW]
  clear hW
  have hv := hv.ext hB
  have HT := Lib.hid (hT.below hB)
  generalize hBe : w.heap.size = B at *
  have HBe := Lib.hid hBe
  clear hBe hT
  have k0 := hbx.c0
  have k1 := hbx.c1
  have k2 := hbx.c2
  have k3 := hbx.c3
  go_wp2_with fail
  refine (refDNorm_any _ _ _ hv.dl HT.out).mono ?_
  rintro e w1 ⟨r, rfl, hr, hw1⟩
  obtain ⟨rb, rn, ro, rk, rc, re, rfl⟩ := hr.parts
  have hbx := hbx.below hw1
  obtain ⟨hE, hE'⟩ := bnext hB (by omega) hw1
  clear k0 k1 k2 k3 hv hB hz hw1 HT
  have k0 := hbx.c0
  have k1 := hbx.c1
  have k2 := hbx.c2
  have k3 := hbx.c3
  have f0 := hbx.f 0
  have f1 := hbx.f 1
  have f2 := hbx.f 2
  have f3 := hbx.f 3
  go_upto_region 2 with fail
  have ho := only_set4 w1 B (.bool rb) (.bool rn) (.slice ro rk rc) (.int .i64 re)
  have hr := hr.only_dbox hbx ho
  have bx := hbx.stored rb rn ro rk rc re
  have hE3 := hE.trans (ho.below (B := B) (Nat.le_refl _))
  have hz2 := ho.size
  clear f0 f1 f2 f3 k0 k1 k2 k3 hE ho hbx
  generalize (((w1.setCell ⟨B, 0, none⟩ (.bool rb)).setCell ⟨B, 1, none⟩ (.bool rn)).setCell ⟨B, 2, none⟩ (.slice ro rk rc)).setCell ⟨B, 3, none⟩ (.int .i64 re) = w3 at *
  obtain ⟨g1, g2, g3⟩ := hr.get
  obtain rfl : rb = false := g1
  obtain rfl : re = 60 := g2
  have g3 : Bn w3 rn ro rk rc 1 := g3
  obtain rfl : rn = false := g3.neg
  have hg := bn_bg_of g3 (by decide)
  have k0 := bx.c0
  have k1 := bx.c1
  have k2 := bx.c2
  have k3 := bx.c3
  have hs1 : (sgn3 1 0 == 0) = false := by decide
  go_wp2_with fail
  refine (refSign_any _ _ _ _ _ _ hg).mono ?_
  rintro e w4 ⟨rfl, hw4⟩
  have bx := bx.below hw4
  have hg := hg.below hw4
  obtain ⟨hE4, hE4'⟩ := bnext hE3 (by omega) hw4
  clear k0 k1 k2 k3 hw4 hE3 g3 hr
  have k0 := bx.c0
  have k1 := bx.c1
  have k2 := bx.c2
  have k3 := bx.c3
  have HC : ∀ wx, Ext w4 wx → wx.cell? ⟨B, 0, none⟩ = some (.bool false) ∧ wx.cell? ⟨B, 1, none⟩ = some (.bool false) ∧ wx.cell? ⟨B, 2, none⟩ = some (.slice ro rk rc) ∧ wx.cell? ⟨B, 3, none⟩ = some (.int .i64 60) := fun wx h => ⟨(bx.ext h).c0, (bx.ext h).c1, (bx.ext h).c2, (bx.ext h).c3⟩
  have HC := Lib.hid HC
  have hex : Ext w4 w4.drew := (Below.refl _ _).drew
  go_upto_region 6 with fail
  go_region_held3 (fun wx => wx.cell? ⟨B, 0, none⟩ = some (.bool false) ∧ wx.cell? ⟨B, 1, none⟩ = some (.bool false) ∧ wx.cell? ⟨B, 2, none⟩ = some (.slice ro rk rc) ∧ wx.cell? ⟨B, 3, none⟩ = some (.int .i64 60))
    (first | exact HC.out _ (by assumption))
    (first
      | (go_at_call 103; refine (refAbs_any _ _ _ _ _ _ (by exact hg.below hex)).mono ?_; rintro e w5 ⟨nr, ao, k, cr, rfl, ha, _, hw5⟩; have ex5 : Ext w4 w5 := Ext.trans hex hw5)
      | (go_at_call 155; refine (refRounded_60 _ _ _ _ _ (by exact bn_bg_of ha (by decide))).mono ?_; rintro e w6 ⟨rfl, hw6⟩; have ex6 : Ext w4 w6 := Ext.trans ex5 hw6))
  obtain ⟨hE6, _⟩ := bnext hE4 hE4' ex6
  have HE := Lib.hid (show Ext w w6 by unfold Ext; rw [HBe.out]; exact hE6)
  go_wp2
  go_ret
  exact ⟨rfl, HE.out⟩

set_option maxRecDepth 100000 in
set_option maxHeartbeats 4000000 in
theorem refFromInt_60 (w : World) (hT : Table w) :
    Calls Tryz.prog 32 #[.int .i64 1152921504606846976, .int .i64 0] w fun e w' => e = .returned (.int .u64 4877398396442247168) ∧ Ext w w' := by
  have C := Lib.hid (refDFromInt_any 1152921504606846976 w (by omega) (by omega) hT)
  rw [dmk_60] at C
  have HT := Lib.hid hT
  clear hT
  go_enter Tryz.func32, Tryz.ntmps32
  go_wp2_with fail
  refine C.out.mono ?_
  rintro e w1 ⟨v, rfl, hv, hw1⟩
  go_wp2_with fail
  refine (refRound_60 v w1 hv (HT.out.below hw1)).mono ?_
  rintro e w2 ⟨rfl, hw2⟩
  go_wp2
  go_ret
  exact ⟨rfl, Ext.trans hw1 hw2⟩
end Go.Proofs.YtjohpdobnedilaaGreatDoor

/- What the sanity check of the laws of sums does. -/
namespace Go.Proofs.YtjohpdobnedilaaGreatDoor
open Go Go.RowKit

theorem fin_60 : finB 4877398396442247168 = true := by decide
theorem aw_sum : dtotal ([4877398396442247168, 4607182418800017408, 14100770433297022976].map fdy) = some (1, 0) := by
  have h : ∀ f ∈ [4877398396442247168, 4607182418800017408, 14100770433297022976], finB f = true := by decide
  have h1 := sumF_dy h (by decide)
  have h2 : sumF [4877398396442247168, 4607182418800017408, 14100770433297022976] = fzs 4607182418800017408 := by decide +kernel
  rw [h2] at h1
  rw [h1.unique (fdy_is (by decide)), fdy_one]
theorem aw_two : faddF 4877398396442247168 4607182418800017408 0 = 4877398396442247168 := by decide +kernel
theorem aw_rest : restB 4877398396442247168 (dadd (fdy 4877398396442247168) (fdy 4607182418800017408)) = true ∧ rest 4877398396442247168 (dadd (fdy 4877398396442247168) (fdy 4607182418800017408)) = 4607182418800017408 := by
  obtain ⟨h1, _⟩ := free_sum (a := 4877398396442247168) (b := 4607182418800017408) fin_60 (by decide) (by decide) aw_two
  refine ⟨by rw [h1]; decide, ?_⟩
  have hV : Is (dadd (fdy 4877398396442247168) (fdy 4607182418800017408)) 1074 (fzs 4877398396442247168 + fzs 4607182418800017408) := (fdy_is fin_60).add (fdy_is (by decide)) (by omega) (abs_add_lt (fzs_lt fin_60) (fzs_lt (by decide))) (by rw [low46_le]; omega)
  have hR := Is.sub hV (fdy_is fin_60) (by omega) (B := 52 + low46 + 1 + 1) (abs_sub_lt (abs_add_lt (fzs_lt fin_60) (fzs_lt (by decide))) (lt_up (fzs_lt fin_60))) (by rw [low46_le]; omega)
  rw [show fzs 4877398396442247168 + fzs 4607182418800017408 - fzs 4877398396442247168 = fzs 4607182418800017408 by omega] at hR
  have e := hR.unique (fdy_is (by decide))
  unfold rest
  rw [e, fdy_one]
  decide +kernel

/-- three floats in a block of their own -/
theorem three_made (w : World) (a b c : Nat) (ha : a < 18446744073709551616) (hb : b < 18446744073709551616) (hc : c < 18446744073709551616) :
    ∃ W, W = w.alloc (.cells #[.int .u64 (a : Int), .int .u64 (b : Int), .int .u64 (c : Int)] 23) ∧ Ext w W ∧ Fs W (some ⟨w.heap.size, 0, none⟩) 3 3 [a, b, c] := by
  refine ⟨_, rfl, (Below.refl _ w).alloc (Nat.le_refl _) _, ⟨rfl, Nat.le_refl _, ?_, fun _ => ⟨w.heap.size, 0, rfl, fun j hj => ?_⟩⟩⟩
  · intro x hx
    simp only [List.mem_cons, List.not_mem_nil, or_false] at hx
    rcases hx with rfl | rfl | rfl <;> assumption
  · rw [cell_of_row _ w.heap.size _ _ _ _ (heap_alloc_new w _)]
    match j, hj with
    | 0, _ => rfl
    | 1, _ => rfl
    | 2, _ => rfl

set_option maxRecDepth 100000 in
set_option maxHeartbeats 4000000 in
theorem aawake_any (w : World) (hT : Table w) (hT6 : Table64 w) : Calls Tryz.prog 11 #[] w fun e w' => e = .returned (.bool true) ∧ Ext w w' := by
  have HT := Lib.hid hT; clear hT
  have HT6 := Lib.hid hT6; clear hT6
  go_enter Tryz.func11, Tryz.ntmps11
  go_wp2_with fail
  refine (refFromInt_60 w HT.out).mono ?_
  rintro e w1 ⟨rfl, h1⟩
  go_wp2_with fail
  refine (refFNeg_any 4877398396442247168 (by decide) (by decide) (by decide) w1).mono ?_
  rintro e w1' ⟨rfl, rfl⟩
  go_wp2_with fail
  obtain ⟨W, hW, hE, hfs⟩ := three_made w1 4877398396442247168 4607182418800017408 14100770433297022976 (by decide) (by decide) (by decide)
  have hW' : W = w1.alloc (.cells #[.int .u64 4877398396442247168, .int .u64 4607182418800017408, .int .u64 14100770433297022976] 23) := hW
  rw [← hW']
  clear hW hW'
  have h2 := Ext.trans h1 hE
  refine (asum_any _ _ _ _ W hfs (HT.out.below h2) (HT6.out.below h2) (by omega)).mono ?_
  rintro e w2 ⟨v, rfl, hv, hw2⟩
  rw [aw_sum] at hv
  have h3 := Ext.trans h2 hw2
  obtain ⟨rb, rn, ro, rk, rc, re, rfl⟩ := hv.parts
  clear hfs h1 h2 hE hw2
  go_upto_region 3 with fail
  obtain ⟨V, hV, hVB, hvx, hvz⟩ := dbox_new w2 rb rn ro rk rc re
  rw [← hV]
  clear hV
  have hv := hv.ext hVB
  have h4 := Ext.trans h3 hVB
  clear h3 hVB
  generalize w2.heap.size = C at *
  go_wp2_with fail
  refine (twoSum_any 4877398396442247168 4607182418800017408 (by decide) (by decide) V (HT.out.below h4) (HT6.out.below h4) 4877398396442247168 4607182418800017408 true aw_two aw_rest.2 aw_rest.1).mono ?_
  rintro e w3 ⟨rfl, hw3⟩
  have hv := hv.ext hw3
  have hvx := hvx.below hw3
  have h5 := Ext.trans h4 hw3
  have k0 := hvx.c0
  have k1 := hvx.c1
  have k2 := hvx.c2
  have k3 := hvx.c3
  clear h4 hw3
  rw [show pairV 4877398396442247168 4607182418800017408 true = .tuple #[.int .u64 4877398396442247168, .int .u64 4607182418800017408, .bool true] from rfl]
  go_wp2_with fail
  obtain ⟨V3, hV, hE3, hb3⟩ := limb_made w3 1 (by omega) (by omega)
  rw [show (Value.int IntKind.u32 ((1 : Nat) : Int)) = .int .u32 1 from rfl] at hV
  rw [← hV]
  clear hV
  refine (kitDyad_same _ _ _ _ (hv.ext hE3) (dn_lit (f := 0) hb3 (Or.inr ⟨by decide, by decide, by decide⟩))).mono ?_
  rintro e w4 ⟨rfl, hw4⟩
  have h6 := Lib.hid (Ext.trans (Ext.trans h5 hE3) hw4)
  clear k0 k1 k2 k3 hvx hv hb3 hE3 hw4 h5
  go_wp2
  go_ret
  exact ⟨rfl, h6.out⟩
end Go.Proofs.YtjohpdobnedilaaGreatDoor
