import Derived.Test.YtkomhemjodbkpaaDoorTxOrdU7
import Derived.Test.YtkomhemjodbkpaaDoorTxOrdU25
import Derived.Test.YtkomhemjodbkpaaDoorTxOrdU13
import Derived.Test.YtkomhemjodbkpaaDoorTxOrdU16
import Derived.Test.YtkomhemjodbkpaaDoorTxOrdU18
import Derived.Test.YtkomhemjodbkpaaDoorTxOrdU24
import Derived.Test.YtkomhemjodbkpaaDoorTxOrdU4
import Derived.Laws.Bits64
namespace Go.Proofs.YtkomhemjodbkpaaDoor
open Go.RowKit

theorem box_new (w : World) (nb : Bool) (ao : Option Addr) (n ca : Nat) :
    ∃ W, W = w.alloc (.cells #[.bool nb, .slice ao n ca] 24) ∧ Below w.heap.size w W ∧ Box W w.heap.size nb ao n ca ∧ w.heap.size + 1 ≤ W.heap.size :=
  ⟨_, rfl, (Below.refl _ w).alloc (Nat.le_refl _) _, Box.new w nb ao n ca, by simp⟩

end Go.Proofs.YtkomhemjodbkpaaDoor

namespace Go.Proofs.YtkomhemjodbkpaaDoor
open Go.RowKit

section
variable {W w : World} {L : List Ent} {u v : Value} {x y : Int} {N M : Nat} {c d : Bool}

theorem sign_bag (h : St W w L) (h1 : ⟨u, x, N, c⟩ ∈ L) (s : Int) (hs : sgn3 x 0 = s) :
    Calls Tryd.prog 13 #[u] w fun e w' => e = .returned (.int .i64 s) ∧ St W w' L := by
  obtain ⟨nb, ao, n, ca, rfl, b1, n1, a1, _⟩ := h.bag _ h1
  exact (sign_any nb ao n ca x w b1).mono fun e w' ⟨he, hw⟩ => ⟨by rw [he, hs], h.step hw⟩

theorem cmp_bag (h : St W w L) (h1 : ⟨u, x, N, c⟩ ∈ L) (h2 : ⟨v, y, M, d⟩ ∈ L) (s : Int) (hs : sgn3 x y = s) :
    Calls Tryd.prog 12 #[u, v] w fun e w' => e = .returned (.int .i64 s) ∧ St W w' L := by
  obtain ⟨nb, ao, n, ca, rfl, b1, n1, a1, _⟩ := h.bag _ h1
  obtain ⟨mb, bo, m, cb, rfl, b2, n2, a2, _⟩ := h.bag _ h2
  exact (cmp_any nb mb ao n ca bo m cb x y w b1 b2).mono fun e w' ⟨he, hw⟩ => ⟨by rw [he, hs], h.step hw⟩

end

theorem St.alloc {W w : World} {L : List Ent} (h : St W w L) (o : Obj) : St W (w.alloc o) L := h.step ((Below.refl _ w).alloc (Nat.le_refl _) o)

theorem Ent.Ok.only_box {w w' : World} {p : Ent} {g : Nat} {nb : Bool} {ao : Option Addr} {n ca : Nat} (h : p.Ok w) (hb : Box w g nb ao n ca) (ho : Only g w w') : p.Ok w' := by
  obtain ⟨nb, ao, n, ca, h1, ⟨⟨zs, h2, h2'⟩, h2''⟩, h3, h4, h5⟩ := h
  exact ⟨nb, ao, n, ca, h1, ⟨⟨zs, h2.only_box hb ho, h2'⟩, h2''⟩, h3, h4, fun e => ⟨(h5 e).neg, (h5 e).sl.only_box hb ho⟩⟩

/-- a variable of this call's own is written -/
theorem St.stored {W w : World} {L : List Ent} {g : Nat} {nb : Bool} {ao : Option Addr} {n ca : Nat} (h : St W w L) (hb : Box w g nb ao n ca) (hg : W.heap.size ≤ g) (mb : Bool) (bo : Option Addr) (m cb : Nat) :
    St W ((w.setCell ⟨g, 0, none⟩ (.bool mb)).setCell ⟨g, 1, none⟩ (.slice bo m cb)) L :=
  ⟨Below.trans h.ext ((only_set2 w g _ _).below hg), fun p hp => (h.bag p hp).only_box hb (only_set2 w g _ _)⟩

end Go.Proofs.YtkomhemjodbkpaaDoor

namespace Go.Proofs.YtkomhemjodbkpaaDoor
open Go.RowKit

set_option maxRecDepth 100000 in
set_option maxHeartbeats 1000000 in
/-- the closure: limb i, or zero -/
theorem limb_nat (ao : Option Addr) (n ca g i : Nat) (x : Int) (zs : List Int) (w : World) (hg : w.cell? ⟨g, 0, none⟩ = some (.slice ao n ca)) (hs : Sl w ao n ca zs) (hi : i ≤ 1099511627776) (hx : zs.getD i 0 = x) :
    Calls Tryd.prog 58 #[.int .i64 i, .pointer (some ⟨g, 0, none⟩)] w fun e w' => e = .returned (.int .u64 x) ∧ w = w' := by
  have hn := hs.big
  by_cases h : i < n
  · obtain ⟨b, off, rfl, hc⟩ := hs.cells (by rw [hs.len]; omega)
    have c1 := hc i (by rw [hs.len]; omega)
    rw [hx] at c1
    have hxr := hs.wf.getD i
    rw [hx] at hxr
    obtain ⟨x0, x1⟩ := hxr
    have HX := Lib.hid hx; clear hx hc
    go_enter Tryd.func58, Tryd.ntmps58
    go_wp2
    go_ret
    exact ⟨rfl, rfl⟩
  · have hx0 : x = 0 := by
      rw [← hx, List.getD, List.getElem?_eq_none (by rw [hs.len]; omega)]; rfl
    have HX := Lib.hid hx0; clear hx0 hx
    go_enter Tryd.func58, Tryd.ntmps58
    go_wp2
    go_ret
    exact ⟨by rw [HX.out]; rfl, rfl⟩

theorem or_comm64i (a b : Int) : bits BinOp.or IntKind.u64 a b = bits BinOp.or IntKind.u64 b a := by
  show IntKind.u64.wrap _ = IntKind.u64.wrap _
  rw [BitVec.or_comm]

theorem limb_in (ao : Option Addr) (n ca g : Nat) (i x : Int) (zs : List Int) (w : World) (hg : w.cell? ⟨g, 0, none⟩ = some (.slice ao n ca)) (hs : Sl w ao n ca zs) (h0 : 0 ≤ i) (hi : i ≤ 1099511627776) (hx : zs.getD i.toNat 0 = x) :
    Calls Tryd.prog 58 #[.int .i64 i, .pointer (some ⟨g, 0, none⟩)] w fun e w' => e = .returned (.int .u64 x) ∧ w = w' := by
  obtain ⟨k, rfl⟩ := Int.eq_ofNat_of_zero_le h0
  exact limb_nat ao n ca g k x zs w hg hs (by omega) (by simpa using hx)

set_option maxRecDepth 100000 in
set_option maxHeartbeats 1000000 in
theorem bits0_any (a : Nat) (ao : Option Addr) (n ca : Nat) (w : World) (hs : Sl w ao n ca (limbs a)) (ha : a < 18446744073709551616) :
    Calls Tryd.prog 40 #[.slice ao n ca, .int .i64 0] w fun e w' => e = .returned (.int .u64 a) ∧ Below w.heap.size w w' := by
  have l0 := limbs_at a 0
  have l1 := limbs_at a 1
  have l2 := limbs_at a 2
  have e0 : a / 4294967296 ^ 0 % 4294967296 = a % 4294967296 := by simp
  have e1 : a / 4294967296 ^ 1 % 4294967296 = a / 4294967296 := by rw [Nat.pow_one]; omega
  have e2 : a / 4294967296 ^ 2 % 4294967296 = 0 := by rw [Nat.div_eq_of_lt (by omega)]
  rw [e0] at l0; rw [e1] at l1; rw [e2] at l2
  obtain ⟨u, hu⟩ : ∃ u : Int, u = ((a % 4294967296 : Nat) : Int) := ⟨_, rfl⟩
  obtain ⟨v, hv⟩ : ∃ v : Int, v = ((a / 4294967296 : Nat) : Int) := ⟨_, rfl⟩
  rw [← hu] at l0; rw [← hv] at l1
  have u0 : 0 ≤ u := by omega
  have u1 : u < 4294967296 := by omega
  have v0 : 0 ≤ v := by omega
  have v1 : v < 4294967296 := by omega
  have hor : bits BinOp.or IntKind.u64 u (v * 4294967296) = (a : Int) := by
    rw [or_comm64i, or_hl v0 v1 u0 u1]; omega
  have hor0 : bits BinOp.or IntKind.u64 (a : Int) 0 = (a : Int) := by
    have := bits_or_u64_nat a 0 ha (by omega)
    simpa using this
  have hbd : (a : Int) < 18446744073709551616 := by omega
  have L0 := Lib.hid l0
  have L1 := Lib.hid l1
  have L2 := Lib.hid (show (limbs a).getD 2 0 = 0 from l2)
  clear l0 l1 l2 e0 e1 e2 hu hv ha
  have hgw : (w.alloc (.cells #[.slice ao n ca] 22)).cell? ⟨w.heap.size, 0, none⟩ = some (.slice ao n ca) := by go_simp
  have hB := (Below.refl w.heap.size w).alloc (Nat.le_refl _) (.cells #[.slice ao n ca] 22)
  have hs1 := hs.below hB
  go_enter Tryd.func40, Tryd.ntmps40
  go_wp2_with fail
  generalize w.alloc (.cells #[.slice ao n ca] 22) = W at *
  refine (limb_in ao n ca _ 0 u _ W hgw hs1 (by omega) (by omega) L0.out).mono ?_
  rintro e w' ⟨rfl, rfl⟩
  go_wp2_with fail
  refine (limb_in ao n ca _ 1 v _ W hgw hs1 (by omega) (by omega) L1.out).mono ?_
  rintro e w' ⟨rfl, rfl⟩
  go_wp2
  go_quiet ((go_at_call 58; exact quiet_left (limb_in ao n ca _ 2 0 _ _ (by exact hgw) (by exact hs1.drewN _) (by omega) (by omega) (by exact L2.out))))
  go_wp2
  go_ret
  exact ⟨rfl, below_drewN hB _⟩

set_option maxRecDepth 100000 in
set_option maxHeartbeats 1000000 in
/-- an integer that fits easily -/
theorem int_small (nb : Bool) (ao : Option Addr) (n ca : Nat) (x : Int) (w : World) (h : Bg w nb ao n ca x) (h1 : x.natAbs ≤ 4611686018427387904) :
    Calls Tryd.prog 16 #[.agg #[.bool nb, .slice ao n ca]] w fun e w' => e = .returned (.tuple #[.int .i64 x, .bool true]) ∧ Below w.heap.size w w' := by
  obtain ⟨⟨zs, hs, hx⟩, hsm⟩ := h
  have ea : (num zs).toNat = x.natAbs := by rw [hx, sgd_natAbs hs.wf]
  have hn0 := num_nonneg hs.wf
  have hxv : (if nb then -(x.natAbs : Int) else x.natAbs) = x := by
    rw [← ea, Int.toNat_of_nonneg hn0, hx]; rfl
  have HXV := Lib.hid hxv; clear hxv hx hn0
  have hB := (Below.refl w.heap.size w).alloc (Nat.le_refl _) (.cells #[.bool nb, .slice ao n ca] 24)
  have hbx := Box.new w nb ao n ca
  have hs1 := hs.below hB
  have htr := trim_sl ao n ca zs _ hs1
  rw [ea] at htr
  have HT := Lib.hid htr; clear htr ea
  have k2 : (limbs x.natAbs).length ≤ 2 := (limbs_len_le x.natAbs 2).2 (by omega)
  generalize hxa : x.natAbs = a at *
  clear hxa
  go_enter Tryd.func16, Tryd.ntmps16
  go_wp2_with fail
  generalize w.alloc (.cells #[.bool nb, .slice ao n ca] 24) = W at *
  generalize hg : w.heap.size = B at *
  have HG := Lib.hid hg; clear hg
  have c0 := hbx.c0
  refine HT.out.mono ?_
  rintro e w1 ⟨k, rfl, hk, rfl⟩
  have hk2 : k ≤ 2 := by rw [← hk.len]; exact k2
  have hkg : ((k : Int) > 2) = False := by simp; omega
  go_wp2_with fail
  refine (bits0_any a ao k ca _ hk (by omega)).mono ?_
  rintro e w2 ⟨rfl, hw2⟩
  have c2 := (hbx.below hw2).c0
  have hBlt := hbx.lt
  have hb2 := Lib.hid (hB.trans (hw2.mono (by omega)))
  clear hw2 hbx HT hs hs1 hk hB c0
  cases nb with
  | true =>
    go_wp2
    go_ret2
    exact ⟨by rw [← HXV.out]; rfl, by rw [HG.out]; exact hb2.out⟩
  | false =>
    go_wp2
    go_ret2
    exact ⟨by rw [← HXV.out]; rfl, by rw [HG.out]; exact hb2.out⟩
end Go.Proofs.YtkomhemjodbkpaaDoor
