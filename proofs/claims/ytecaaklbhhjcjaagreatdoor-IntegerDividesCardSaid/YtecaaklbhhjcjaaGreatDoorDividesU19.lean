import Derived.Test.YtecaaklbhhjcjaaGreatDoorDividesU16
import Derived.Test.YtecaaklbhhjcjaaGreatDoorDividesU15
import Derived.Test.YtecaaklbhhjcjaaGreatDoorDividesU1
import Derived.Test.YtecaaklbhhjcjaaGreatDoorProg
namespace Go.Proofs.YtecaaklbhhjcjaaGreatDoor
open Go.RowKit

set_option maxRecDepth 100000 in
set_option maxHeartbeats 4000000 in
theorem apply_any (a b c d : Int) (gx gy nx n cx cy B : Nat) (X Y : List Int) (w : World) (hX : Blk w gx X) (hY : Blk w gy Y) (hne : gx ≠ gy) (wX : Wf X) (wY : Wf Y) (hnx : nx ≤ X.length) (hny : n ≤ Y.length) (hxn : n ≤ nx) (hcx : nx ≤ cx) (hcy : n ≤ cy) (hbig : cx ≤ 1099511627776)
    (p1 : Pair a b) (p2 : Pair c d) (hBx : B ≤ gx) (hBy : B ≤ gy) :
    Calls Tryz.prog 137 #[.agg #[.int .i64 a, .int .i64 b, .int .i64 c, .int .i64 d], .slice (some ⟨gx, 0, none⟩) nx cx, .slice (some ⟨gy, 0, none⟩) n cy] w fun e w' => e = .returned (.tuple #[]) ∧ ∃ X' Y' e1 e2, Comb X Y X a b n X' e1 ∧ Comb X Y Y c d n Y' e2 ∧ Blk w' gx X' ∧ Blk w' gy Y' ∧ Below B w w' := by
  have PA := Lib.hid p1
  have PC := Lib.hid p2
  have ba := p1.2
  have bc := p2.2
  obtain ⟨a0, a1, b0, b1⟩ := ba
  obtain ⟨c0, c1, d0, d1⟩ := bc
  clear p1 p2
  go_enter Tryz.func137, Tryz.ntmps137
  go_upto_region 1 with fail
  obtain ⟨W, hW, hB, hbx, hsz⟩ := cof_new w a b c d
  rw [← hW]
  clear hW
  have hgx : gx < w.heap.size := hX.lt
  have hgy : gy < w.heap.size := hY.lt
  have hX := hX.below hB
  have hY := hY.below hB
  have hWB : Below B W W := Below.refl _ _
  have HBW := Lib.hid (show Below B w W from hB.mono (by omega))
  clear hB
  generalize w.heap.size = G at *
  have hgx' : gx ≠ G := by omega
  have hgy' : gy ≠ G := by omega
  have hne' : gy ≠ gx := fun e => hne e.symm
  have WX := Lib.hid wX
  have WY := Lib.hid wY
  clear wX wY
  have cb : Comb X Y X a b 0 X 0 := Comb.start a b WX.out
  have cd : Comb X Y Y c d 0 Y 0 := Comb.start c d WY.out
  go_wp2
  go_loopw [6, 7, 8, 9, 10, 13] (fun ex ey i p q j wr => ∃ (k : Nat) (Lx Ly : List Int) (e1 e2 : Int), k ≤ n ∧ j = .int .i64 k ∧ ex = .int .i64 e1 ∧ ey = .int .i64 e2 ∧ Comb X Y X a b k Lx e1 ∧ Comb X Y Y c d k Ly e2 ∧ Blk wr gx Lx ∧ Blk wr gy Ly ∧ Cof wr G a b c d ∧ Below B W wr)
    (fun _ _ _ _ _ j _ => n - (intOf j).toNat)
  case atStart => exact ⟨0, X, Y, 0, 0, Nat.zero_le _, rfl, rfl, rfl, cb, cd, hX, hY, hbx, hWB⟩
  case round =>
    obtain ⟨k, Lx, Ly, e1, e2, hk, rfl, rfl, rfl, hA, hC, hbx2, hby2, hbc, ho⟩ := hrel
    clear hX hY hbx hWB cb cd
    have hlx := hA.1
    have hly := hC.1
    have e1a := hA.2.2.2.2.1
    have e1b := hA.2.2.2.2.2
    have e2a := hC.2.2.2.2.1
    have e2b := hC.2.2.2.2.2
    have HA := Lib.hid hA
    have HC := Lib.hid hC
    have HO := Lib.hid ho
    clear hA hC ho
    by_cases hlt : k < n
    · have hxr := WX.out.getD k
      have hyr := WY.out.getD k
      have k1 := hbx2.cell k (by omega)
      have k2 := hby2.cell k (by omega)
      rw [getD_of_drop HA.out.2.2.1] at k1
      rw [getD_of_drop HC.out.2.2.1] at k2
      obtain ⟨x, hx⟩ : ∃ x, X.getD k 0 = x := ⟨_, rfl⟩
      obtain ⟨y, hy⟩ : ∃ y, Y.getD k 0 = y := ⟨_, rfl⟩
      rw [hx] at k1 hxr
      rw [hy] at k2 hyr
      have stA := Lib.hid (fun s (hs : s = e1 + (a * x + b * y)) => HA.out.step PA.out WX.out WY.out (by omega) (by omega) (by omega) s (by rw [hx, hy]; exact hs))
      have stC := Lib.hid (fun s (hs : s = e2 + (c * x + d * y)) => HC.out.step PC.out WX.out WY.out (by omega) (by omega) (by omega) s (by rw [hx, hy]; exact hs))
      obtain ⟨x0, x1⟩ := hxr
      obtain ⟨y0, y1⟩ := hyr
      obtain ⟨r1, r2, r3⟩ := PA.out.range x0 x1 y0 y1
      obtain ⟨r4, r5, r6⟩ := PC.out.range x0 x1 y0 y1
      obtain ⟨ax, hax⟩ : ∃ v, a * x = v := ⟨_, rfl⟩
      obtain ⟨by', hby⟩ : ∃ v, b * y = v := ⟨_, rfl⟩
      obtain ⟨cx', hcx'⟩ : ∃ v, c * x = v := ⟨_, rfl⟩
      obtain ⟨dy, hdy⟩ : ∃ v, d * y = v := ⟨_, rfl⟩
      rw [hax, hby] at stA r3
      rw [hcx', hdy] at stC r6
      rw [hax] at r1
      rw [hby] at r2
      rw [hcx'] at r4
      rw [hdy] at r5
      have w1 : IntKind.i64.wrap (a * x) = ax := by rw [hax]; exact IntWalk.i64_in _ ⟨by omega, by omega⟩
      have w2 : IntKind.i64.wrap (b * y) = by' := by rw [hby]; exact IntWalk.i64_in _ ⟨by omega, by omega⟩
      have w3 : IntKind.i64.wrap (c * x) = cx' := by rw [hcx']; exact IntWalk.i64_in _ ⟨by omega, by omega⟩
      have w4 : IntKind.i64.wrap (d * y) = dy := by rw [hdy]; exact IntWalk.i64_in _ ⟨by omega, by omega⟩
      obtain ⟨r1a, r1b⟩ := r1
      obtain ⟨r2a, r2b⟩ := r2
      obtain ⟨r3a, r3b⟩ := r3
      obtain ⟨r4a, r4b⟩ := r4
      obtain ⟨r5a, r5b⟩ := r5
      obtain ⟨r6a, r6b⟩ := r6
      have HXk := Lib.hid hx
      have HYk := Lib.hid hy
      have HLx := Lib.hid hlx
      have HLy := Lib.hid hly
      clear hax hby hcx' hdy hx hy hlx hly
      have f1 := hbx2.frozen k
      have f2 := hby2.frozen k
      have f3 : ∀ v, (wr.setCell ⟨gx, k, none⟩ v).frozen? ⟨gy, k, none⟩ = false := fun v => (hby2.only ((Only.refl gx wr).setCell k v) hne').frozen k
      have q0 := hbc.c0
      have q1 := hbc.c1
      have q2 := hbc.c2
      have q3 := hbc.c3
      have HBC := Lib.hid hbc
      have HX2 := Lib.hid hbx2
      have HY2 := Lib.hid hby2
      clear hbc hbx2 hby2
      go_wp2
      go_region
      go_wp2
      go_roundw
      case rel =>
        have t1 := HX2.out.set k ((e1 + (ax + by')) % 4294967296)
        have t2 := HY2.out.set k ((e2 + (cx' + dy)) % 4294967296)
        have u1 := (Only.refl gx wr).setCell k (.int .u32 ((e1 + (ax + by')) % 4294967296))
        have u2 := (Only.refl gy (wr.setCell ⟨gx, k, none⟩ (.int .u32 ((e1 + (ax + by')) % 4294967296)))).setCell k (.int .u32 ((e2 + (cx' + dy)) % 4294967296))
        exact ⟨k + 1, _, _, _, _, by omega, by go_num, rfl, rfl, stA.out _ rfl, stC.out _ rfl, Blk.drew (Blk.only t1 u2 hne), Blk.drew ((HY2.out.only u1 hne').set k _), (HBC.out.only u1 (Ne.symm hgx')).only u2.drew (Ne.symm hgy'), (HO.out.trans ((u1.below hBx).trans (u2.below hBy))).drew⟩
      case measure => simp [intOf] <;> omega
    · obtain rfl : k = n := by omega
      go_wp2
      go_end0
      exact ⟨rfl, Lx, Ly, e1, e2, HA.out, HC.out, hbx2, hby2, HBW.out.trans HO.out⟩
end Go.Proofs.YtecaaklbhhjcjaaGreatDoor

namespace Go.Proofs.YtecaaklbhhjcjaaGreatDoor
open Go.RowKit

set_option maxRecDepth 100000 in
set_option maxHeartbeats 2000000 in
theorem wordGcd_any (a b : Nat) (w : World) (ha : a < 18446744073709551616) (hb : b < 18446744073709551616) :
    Calls Tryz.prog 138 #[.int .u64 (a : Int), .int .u64 (b : Int)] w fun e w' => e = .returned (.int .u64 ((Nat.gcd a b : Nat) : Int)) ∧ Below w.heap.size w w' := by
  obtain ⟨G, hG⟩ : ∃ G : Int, ((Nat.gcd a b : Nat) : Int) = G := ⟨_, rfl⟩
  rw [hG]
  have HG := Lib.hid hG
  clear hG
  go_enter Tryz.func138, Tryz.ntmps138
  go_wp2
  go_loopw [0, 1] (fun x y wr => ∃ p q : Nat, x = .int .u64 (p : Int) ∧ y = .int .u64 (q : Int) ∧ p < 18446744073709551616 ∧ q < 18446744073709551616 ∧ ((Nat.gcd p q : Nat) : Int) = G ∧ Below w.heap.size w wr)
    (fun _ y _ => (intOf y).toNat)
  case atStart => exact ⟨a, b, rfl, rfl, ha, hb, HG.out, Below.refl _ w⟩
  case round =>
    obtain ⟨p, q, rfl, rfl, hp, hq, hg, hE⟩ := hrel
    have HG1 := Lib.hid hg
    have HE := Lib.hid hE
    clear hg hE
    by_cases h0 : q = 0
    · subst h0
      go_wp2
      go_ret
      refine ⟨?_, HE.out⟩
      have := HG1.out
      rw [Nat.gcd_zero_right] at this
      rw [this]; rfl
    · have hq0 : (0 : Int) < q := by omega
      have hqz : ((q : Int) == 0) = false := by apply beq_eq_false_iff_ne.2; omega
      have hm : (p : Int) % (q : Int) = ((p % q : Nat) : Int) := by rw [Int.natCast_emod]
      have hml : p % q < q := Nat.mod_lt _ (by omega)
      obtain ⟨m, hmm⟩ : ∃ m, p % q = m := ⟨_, rfl⟩
      rw [hmm] at hm hml
      have hmg : Nat.gcd q m = Nat.gcd p q := by rw [← hmm, Nat.gcd_comm q, ← Nat.gcd_rec, Nat.gcd_comm]
      have HMG := Lib.hid hmg
      have HM2 := Lib.hid hm
      clear hmg hmm hm
      go_wp2
      go_region
      go_wp2
      go_roundw
      case rel => exact ⟨q, m, rfl, by rw [HM2.out], by omega, by omega, by rw [HMG.out]; exact HG1.out, HE.out.trans ((Below.refl _ _).drew)⟩
      case measure =>
        have := HM2.out
        simp [intOf] <;> omega
end Go.Proofs.YtecaaklbhhjcjaaGreatDoor
