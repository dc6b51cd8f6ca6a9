import Derived.Test.YtecaaklbhhjcjaaGreatDoorDividesU14
import Derived.Test.YtecaaklbhhjcjaaGreatDoorDividesU15
import Derived.Test.YtecaaklbhhjcjaaGreatDoorDividesU1
import Derived.Deep.RegionHeld3
import Derived.Deep.CutRange
import Derived.Deep.CutBlock
import Derived.Test.YtecaaklbhhjcjaaGreatDoorProg
import Derived.Test.YtecaaklbhhjcjaaGreatDoorDividesU2
import Derived.Test.YtecaaklbhhjcjaaGreatDoorDividesU6
import Derived.Laws.Bits64
namespace Go.Proofs.YtecaaklbhhjcjaaGreatDoor
open Go.RowKit

def IsVal (w : World) (v : Value) (a : Nat) : Prop := ∃ ao n ca, v = .slice ao n ca ∧ Sl w ao n ca (limbs a)
theorem IsVal.unique {w : World} {v : Value} {a b : Nat} (h : IsVal w v a) (k : IsVal w v b) : a = b := by
  obtain ⟨ao, n, ca, rfl, h1⟩ := h
  obtain ⟨_, _, _, e, h2⟩ := k
  cases e
  apply limbs_inj
  apply List.ext_getElem (by rw [h1.len, h2.len])
  intro i hi hj
  obtain ⟨g, o, e1, hc⟩ := h1.cells (by omega)
  obtain ⟨g', o', e2, hc'⟩ := h2.cells (by omega)
  rw [e1] at e2
  cases e2
  have := (hc i hi).symm.trans (hc' i hj)
  rw [getD_at hi, getD_at hj] at this
  simpa using this
noncomputable def valAt (w : World) (v : Value) : Nat := by
  classical
  exact if h : ∃ x, IsVal w v x then h.choose else 0
theorem valAt_is {w : World} {v : Value} {a : Nat} (h : IsVal w v a) : valAt w v = a := by
  have hx : ∃ x, IsVal w v x := ⟨a, h⟩
  unfold valAt
  rw [dif_pos hx]
  exact hx.choose_spec.unique h

theorem OwnR.sl {w : World} {B : Nat} {ao : Option Addr} {n ca a : Nat} (h : OwnR w B ao n ca a) : Sl w ao n ca (limbs a) := by
  rcases h with ⟨rfl, rfl⟩ | ⟨g, rfl, -, h⟩
  · rw [limbs_zero]; exact Sl.empty w ao ca
  · exact h.sl
theorem OwnR.mono {w : World} {B C : Nat} {ao : Option Addr} {n ca a : Nat} (h : OwnR w B ao n ca a) (hc : C ≤ B) : OwnR w C ao n ca a :=
  h.imp id (fun ⟨g, e, hg, h⟩ => ⟨g, e, Nat.le_trans hc hg, h⟩)

/-- trimmed limbs of a block -/
theorem Owns.trim {w : World} {g m k ca : Nat} {L : List Int} (h : Blk w g L) (hw : Wf L) (hm : m ≤ L.length) (hk : (limbs (num (L.take m)).toNat).length = k) (hc : L.length = ca) (hb : L.length ≤ 1099511627776) : Owns w g k ca (num (L.take m)).toNat := by
  have e := take_tlen (hw.take m) (L.take m).length (Nat.le_refl _)
  have e2 := tlen_eq (hw.take m)
  rw [← e2, hk, List.take_length, List.take_take] at e
  have hkm : k ≤ m := by
    have := tlen_le (L.take m) (L.take m).length
    rw [← e2, hk, List.length_take] at this
    omega
  rw [Nat.min_eq_left hkm] at e
  exact ⟨L, h, hw, e, by omega, hc, hb⟩

theorem Owns.clone {w : World} {g n a : Nat} (h : Blk w g (limbs a)) (hn : (limbs a).length = n) (hb : n ≤ 1099511627776) : Owns w g n n a :=
  ⟨limbs a, h, Wf.limbs a, List.take_of_length_le (by omega), by omega, by omega, by omega⟩
theorem OwnR.below {w w' : World} {B : Nat} {ao : Option Addr} {n ca a : Nat} (h : OwnR w B ao n ca a) (hb : Below w.heap.size w w') : OwnR w' B ao n ca a :=
  h.imp id (fun ⟨g, e, hg, h⟩ => ⟨g, e, hg, h.below hb⟩)
theorem len_pos {w : World} {ao : Option Addr} {n ca a : Nat} (h : Sl w ao n ca (limbs a)) (hn : 0 < n) : a ≠ 0 := by
  rintro rfl
  have := h.len
  rw [limbs_zero] at this
  simp at this
  omega

theorem gz_nat (a b : Nat) : gz (a : Int) (b : Int) = Nat.gcd a b := by unfold gz; rw [Int.toNat_natCast, Int.toNat_natCast]

/-- what the cofactors make of two numbers in memory -/
theorem lehmer_next {X Y n : Nat} {u0 v0 a b c d u v : Int} {LX LY X' Y' : List Int} {nx : Nat} {e1 e2 : Int} (h : Leh (X : Int) Y u0 v0 a b c d u v) (hb : b ≠ 0) (hX : LX.take nx = limbs X) (hY : LY.take n = limbs Y) (hn : n ≤ nx) (hx : nx ≤ LX.length) (hy : n ≤ LY.length)
    (k1 : Comb LX LY LX a b n X' e1) (k2 : Comb LX LY LY c d n Y' e2) :
    ∃ X1 Y1 : Nat, (num (X'.take n)).toNat = X1 ∧ (num (Y'.take n)).toNat = Y1 ∧ Y1 ≤ X1 ∧ Nat.gcd X1 Y1 = Nat.gcd X Y ∧ Y1 < Y ∧ X1 < 4294967296 ^ n := by
  have hlY : (limbs Y).length = n := by rw [← hY, List.length_take]; omega
  have hYn : (Y : Int) < 4294967296 ^ n := by have := limbs_lt Y; rw [hlY] at this; exact this
  have k1 := (k1.cut hn).cutY (m := n) (Nat.le_refl _)
  have k2 := (k2.cut hn).cutY (m := n) (Nat.le_refl _)
  rw [hX, hY] at k1 k2
  have hf : a * X + b * Y ≤ Y ∧ c * X + d * Y < a * X + b * Y := by
    rcases h.first with f | f
    · exact absurd f.1 hb
    · exact f
  have o1 := h.ord.1
  have d1 := k1.done hlY (by rw [num_limbs, num_limbs]; omega) (by rw [num_limbs, num_limbs]; omega) (by omega)
  have d2 := k2.done hlY (by rw [num_limbs, num_limbs]; omega) (by rw [num_limbs, num_limbs]; omega) (by omega)
  rw [num_limbs, num_limbs] at d1 d2
  have g := h.gcd
  rw [gz_nat] at g
  refine ⟨(num (X'.take n)).toNat, (num (Y'.take n)).toNat, rfl, rfl, ?_, ?_, ?_, ?_⟩
  · rw [d1, d2]; omega
  · rw [d1, d2]; exact g
  · rw [d2]; omega
  · have : ((num (X'.take n)).toNat : Int) < 4294967296 ^ n := by rw [d1]; omega
    have h2 : ((4294967296 ^ n : Nat) : Int) = 4294967296 ^ n := by rw [Int.natCast_pow]; rfl
    rw [← h2] at this
    exact Int.ofNat_lt.1 this
end Go.Proofs.YtecaaklbhhjcjaaGreatDoor

namespace Go.Proofs.YtecaaklbhhjcjaaGreatDoor
open Go.RowKit

/-- block g holds cofactors -/
def Cof (W : World) (g : Nat) (a b c d : Int) : Prop := W.heap[g]? = some (.cells #[.int .i64 a, .int .i64 b, .int .i64 c, .int .i64 d] 118 (0, 0))
section
variable {W w w' : World} {g : Nat} {a b c d : Int}
theorem Cof.c0 (h : Cof W g a b c d) : W.cell? ⟨g, 0, none⟩ = some (.int .i64 a) := by rw [cell_of_row W g 0 _ _ _ h]; rfl
theorem Cof.c1 (h : Cof W g a b c d) : W.cell? ⟨g, 1, none⟩ = some (.int .i64 b) := by rw [cell_of_row W g 1 _ _ _ h]; rfl
theorem Cof.c2 (h : Cof W g a b c d) : W.cell? ⟨g, 2, none⟩ = some (.int .i64 c) := by rw [cell_of_row W g 2 _ _ _ h]; rfl
theorem Cof.c3 (h : Cof W g a b c d) : W.cell? ⟨g, 3, none⟩ = some (.int .i64 d) := by rw [cell_of_row W g 3 _ _ _ h]; rfl
theorem Cof.f (h : Cof W g a b c d) (o : Nat) : W.frozen? ⟨g, o, none⟩ = false := by
  unfold Cof at h; simp [World.frozen?, h]
theorem Cof.lt (h : Cof w g a b c d) : g < w.heap.size := lt_of_cell h.c0
theorem Cof.kept {B : Nat} (h : Cof w g a b c d) (hb : Below B w w') (hg : g < B) : Cof w' g a b c d := by
  unfold Cof; rw [hb.block g hg]; exact h
theorem Cof.below (h : Cof w g a b c d) (hb : Below w.heap.size w w') : Cof w' g a b c d := h.kept hb h.lt
theorem Cof.only {k : Nat} (h : Cof w g a b c d) (ho : Only k w w') (hne : g ≠ k) : Cof w' g a b c d := by
  unfold Cof; rw [ho.block g hne]; exact h
end
theorem Cof.new (w : World) (a b c d : Int) : Cof (w.alloc (.cells #[.int .i64 a, .int .i64 b, .int .i64 c, .int .i64 d] 118)) w.heap.size a b c d := heap_alloc_new w _
theorem Cof.stored {w : World} {g : Nat} {a b c d : Int} (h : Cof w g a b c d) (a' b' c' d' : Int) :
    Cof ((((w.setCell ⟨g, 0, none⟩ (.int .i64 a')).setCell ⟨g, 1, none⟩ (.int .i64 b')).setCell ⟨g, 2, none⟩ (.int .i64 c')).setCell ⟨g, 3, none⟩ (.int .i64 d')) g a' b' c' d' := by
  unfold Cof at h ⊢
  simp [World.setCell, Array.getElem?_modify, h]
theorem only_cset4 (w : World) (g : Nat) (u v x y : Value) : Only g w ((((w.setCell ⟨g, 0, none⟩ u).setCell ⟨g, 1, none⟩ v).setCell ⟨g, 2, none⟩ x).setCell ⟨g, 3, none⟩ y) := ((((Only.refl g w).setCell _ _).setCell _ _).setCell _ _).setCell _ _
theorem cof_new (w : World) (a b c d : Int) :
    ∃ W, W = w.alloc (.cells #[.int .i64 a, .int .i64 b, .int .i64 c, .int .i64 d] 118) ∧ Below w.heap.size w W ∧ Cof W w.heap.size a b c d ∧ w.heap.size + 1 ≤ W.heap.size :=
  ⟨_, rfl, (Below.refl _ w).alloc (Nat.le_refl _) _, Cof.new w a b c d, by simp⟩
end Go.Proofs.YtecaaklbhhjcjaaGreatDoor

namespace Go.Proofs.YtecaaklbhhjcjaaGreatDoor
open Go.RowKit

set_option maxRecDepth 100000 in
set_option maxHeartbeats 1000000 in
/-- the closure: limb i, or zero -/
theorem limb_nat (ao : Option Addr) (n ca g i : Nat) (x : Int) (zs : List Int) (w : World) (hg : w.cell? ⟨g, 0, none⟩ = some (.slice ao n ca)) (hs : Sl w ao n ca zs) (hi : i ≤ 1099511627776) (hx : zs.getD i 0 = x) :
    Calls Tryz.prog 185 #[.int .i64 i, .pointer (some ⟨g, 0, none⟩)] w fun e w' => e = .returned (.int .u64 x) ∧ w = w' := by
  have hn := hs.big
  by_cases h : i < n
  · obtain ⟨b, off, rfl, hc⟩ := hs.cells (by rw [hs.len]; omega)
    have c1 := hc i (by rw [hs.len]; omega)
    rw [hx] at c1
    have hxr := hs.wf.getD i
    rw [hx] at hxr
    obtain ⟨x0, x1⟩ := hxr
    have HX := Lib.hid hx; clear hx hc
    go_enter Tryz.func185, Tryz.ntmps185
    go_wp2
    go_ret
    exact ⟨rfl, rfl⟩
  · have hx0 : x = 0 := by
      rw [← hx, List.getD, List.getElem?_eq_none (by rw [hs.len]; omega)]; rfl
    have HX := Lib.hid hx0; clear hx0 hx
    go_enter Tryz.func185, Tryz.ntmps185
    go_wp2
    go_ret
    exact ⟨by rw [HX.out]; rfl, rfl⟩

theorem or_comm64i (a b : Int) : bits BinOp.or IntKind.u64 a b = bits BinOp.or IntKind.u64 b a := by
  show IntKind.u64.wrap _ = IntKind.u64.wrap _
  rw [BitVec.or_comm]

theorem limb_in (ao : Option Addr) (n ca g : Nat) (i x : Int) (zs : List Int) (w : World) (hg : w.cell? ⟨g, 0, none⟩ = some (.slice ao n ca)) (hs : Sl w ao n ca zs) (h0 : 0 ≤ i) (hi : i ≤ 1099511627776) (hx : zs.getD i.toNat 0 = x) :
    Calls Tryz.prog 185 #[.int .i64 i, .pointer (some ⟨g, 0, none⟩)] w fun e w' => e = .returned (.int .u64 x) ∧ w = w' := by
  obtain ⟨k, rfl⟩ := Int.eq_ofNat_of_zero_le h0
  exact limb_nat ao n ca g k x zs w hg hs (by omega) (by simpa using hx)

set_option maxRecDepth 100000 in
set_option maxHeartbeats 1000000 in
theorem bits0_any (a : Nat) (ao : Option Addr) (n ca : Nat) (w : World) (hs : Sl w ao n ca (limbs a)) (ha : a < 18446744073709551616) :
    Calls Tryz.prog 116 #[.slice ao n ca, .int .i64 0] w fun e w' => e = .returned (.int .u64 a) ∧ Below w.heap.size w w' := by
  have l0 := limbs_at a 0
  have l1 := limbs_at a 1
  have l2 := limbs_at a 2
  have e0 : a / 4294967296 ^ 0 % 4294967296 = a % 4294967296 := by simp
  have e1 : a / 4294967296 ^ 1 % 4294967296 = a / 4294967296 := by rw [Nat.pow_one]; omega
  have e2 : a / 4294967296 ^ 2 % 4294967296 = 0 := by rw [Nat.div_eq_of_lt (by omega)]
  rw [e0] at l0; rw [e1] at l1; rw [e2] at l2
  obtain ⟨u, hu⟩ : ∃ u : Int, u = ((a % 4294967296 : Nat) : Int) := ⟨_, rfl⟩
  obtain ⟨v, hv⟩ : ∃ v : Int, v = ((a / 4294967296 : Nat) : Int) := ⟨_, rfl⟩
  rw [← hu] at l0; rw [← hv] at l1
  have u0 : 0 ≤ u := by omega
  have u1 : u < 4294967296 := by omega
  have v0 : 0 ≤ v := by omega
  have v1 : v < 4294967296 := by omega
  have hor : bits BinOp.or IntKind.u64 u (v * 4294967296) = (a : Int) := by
    rw [or_comm64i, or_hl v0 v1 u0 u1]; omega
  have hor0 : bits BinOp.or IntKind.u64 (a : Int) 0 = (a : Int) := by
    have := bits_or_u64_nat a 0 ha (by omega)
    simpa using this
  have hbd : (a : Int) < 18446744073709551616 := by omega
  have L0 := Lib.hid l0
  have L1 := Lib.hid l1
  have L2 := Lib.hid (show (limbs a).getD 2 0 = 0 from l2)
  clear l0 l1 l2 e0 e1 e2 hu hv ha
  have hgw : (w.alloc (.cells #[.slice ao n ca] 22)).cell? ⟨w.heap.size, 0, none⟩ = some (.slice ao n ca) := by go_simp
  have hB := (Below.refl w.heap.size w).alloc (Nat.le_refl _) (.cells #[.slice ao n ca] 22)
  have hs1 := hs.below hB
  go_enter Tryz.func116, Tryz.ntmps116
  go_wp2_with fail
  generalize w.alloc (.cells #[.slice ao n ca] 22) = W at *
  refine (limb_in ao n ca _ 0 u _ W hgw hs1 (by omega) (by omega) L0.out).mono ?_
  rintro e w' ⟨rfl, rfl⟩
  go_wp2_with fail
  refine (limb_in ao n ca _ 1 v _ W hgw hs1 (by omega) (by omega) L1.out).mono ?_
  rintro e w' ⟨rfl, rfl⟩
  go_wp2
  go_quiet ((go_at_call 185; exact quiet_left (limb_in ao n ca _ 2 0 _ _ (by exact hgw) (by exact hs1.drewN _) (by omega) (by omega) (by exact L2.out))))
  go_wp2
  go_ret
  exact ⟨rfl, below_drewN hB _⟩

set_option maxRecDepth 100000 in
set_option maxHeartbeats 1000000 in
/-- an integer that fits easily -/
theorem int_small (nb : Bool) (ao : Option Addr) (n ca : Nat) (x : Int) (w : World) (h : Bg w nb ao n ca x) (h1 : x.natAbs ≤ 4611686018427387904) :
    Calls Tryz.prog 54 #[.agg #[.bool nb, .slice ao n ca]] w fun e w' => e = .returned (.tuple #[.int .i64 x, .bool true]) ∧ Below w.heap.size w w' := by
  obtain ⟨⟨zs, hs, hx⟩, hsm⟩ := h
  have ea : (num zs).toNat = x.natAbs := by rw [hx, sgd_natAbs hs.wf]
  have hn0 := num_nonneg hs.wf
  have hxv : (if nb then -(x.natAbs : Int) else x.natAbs) = x := by
    rw [← ea, Int.toNat_of_nonneg hn0, hx]; rfl
  have HXV := Lib.hid hxv; clear hxv hx hn0
  have hB := (Below.refl w.heap.size w).alloc (Nat.le_refl _) (.cells #[.bool nb, .slice ao n ca] 24)
  have hbx := Box.new w nb ao n ca
  have hs1 := hs.below hB
  have htr := trim_sl ao n ca zs _ hs1
  rw [ea] at htr
  have HT := Lib.hid htr; clear htr ea
  have k2 : (limbs x.natAbs).length ≤ 2 := (limbs_len_le x.natAbs 2).2 (by omega)
  generalize hxa : x.natAbs = a at *
  clear hxa
  go_enter Tryz.func54, Tryz.ntmps54
  go_wp2_with fail
  generalize w.alloc (.cells #[.bool nb, .slice ao n ca] 24) = W at *
  generalize hg : w.heap.size = B at *
  have HG := Lib.hid hg; clear hg
  have c0 := hbx.c0
  refine HT.out.mono ?_
  rintro e w1 ⟨k, rfl, hk, rfl⟩
  have hk2 : k ≤ 2 := by rw [← hk.len]; exact k2
  have hkg : ((k : Int) > 2) = False := by simp; omega
  go_wp2_with fail
  refine (bits0_any a ao k ca _ hk (by omega)).mono ?_
  rintro e w2 ⟨rfl, hw2⟩
  have c2 := (hbx.below hw2).c0
  have hBlt := hbx.lt
  have hb2 := Lib.hid (hB.trans (hw2.mono (by omega)))
  clear hw2 hbx HT hs hs1 hk hB c0
  cases nb with
  | true =>
    go_wp2
    go_ret2
    exact ⟨by rw [← HXV.out]; rfl, by rw [HG.out]; exact hb2.out⟩
  | false =>
    go_wp2
    go_ret2
    exact ⟨by rw [← HXV.out]; rfl, by rw [HG.out]; exact hb2.out⟩
end Go.Proofs.YtecaaklbhhjcjaaGreatDoor
