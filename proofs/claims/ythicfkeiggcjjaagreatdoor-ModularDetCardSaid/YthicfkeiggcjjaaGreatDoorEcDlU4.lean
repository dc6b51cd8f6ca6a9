import Derived.Lib.ItoaNum
import Derived.Test.YthicfkeiggcjjaaGreatDoorEcDlU3
import Derived.Laws.AppendOwn
import Derived.OwnWalk
import Derived.Test.YthicfkeiggcjjaaGreatDoorEcDlU2
import Derived.Lib.AppendIntMem
import Derived.Lib.ItoaMem
import Derived.Lib.Walk
import Derived.Laws.IdiomStrings
import Derived.Shelf.RegionOpen
import Derived.BigCall
import Derived.BigGuard
namespace Go.Proofs.YthicfkeiggcjjaaGreatDoor
open Go.Lib
theorem dec_small {u : Nat} (h : u < 10) : decDigits u = [UInt8.ofNat (48 + u)] := by rw [decDigits, dif_pos h]
theorem dec_big {u : Nat} (h : ¬ u < 10) : decDigits u = decDigits (u / 10) ++ [UInt8.ofNat (48 + u % 10)] := by rw [decDigits, dif_neg h]
/-- exactly k digits, with zeros ahead -/
def padD : Nat → Nat → List UInt8
  | 0, _ => []
  | k + 1, r => padD k (r / 10) ++ [UInt8.ofNat (48 + r % 10)]
theorem padD_succ (k r : Nat) : padD (k + 1) r = padD k (r / 10) ++ [UInt8.ofNat (48 + r % 10)] := rfl
theorem padD_length (k r : Nat) : (padD k r).length = k := by
  induction k generalizing r with
  | zero => rfl
  | succ k ih => rw [padD_succ, List.length_append, ih]; rfl
/-- digits in two parts -/
theorem dec_split (k : Nat) {q r : Nat} (hq : 0 < q) (hr : r < 10 ^ k) : decDigits (q * 10 ^ k + r) = decDigits q ++ padD k r := by
  induction k generalizing r with
  | zero =>
    rw [Nat.pow_zero] at hr
    obtain rfl : r = 0 := by omega
    simp [padD]
  | succ k ih =>
    rw [Nat.pow_succ] at hr ⊢
    have e : q * (10 ^ k * 10) = q * 10 ^ k * 10 := (Nat.mul_assoc _ _ _).symm
    have hp : 1 ≤ q * 10 ^ k := Nat.mul_le_mul hq (Nat.one_le_pow _ _ (by omega))
    rw [e, dec_big (by omega), show (q * 10 ^ k * 10 + r) / 10 = q * 10 ^ k + r / 10 by omega, show (q * 10 ^ k * 10 + r) % 10 = r % 10 by omega, ih (by omega)]
    rw [padD_succ, List.append_assoc]
theorem padD_zero (k : Nat) : padD k 0 = List.replicate k 48 := by
  induction k with
  | zero => rfl
  | succ k ih => rw [padD_succ, Nat.zero_div, ih, List.replicate_succ']; rfl
/-- zeros ahead of the digits -/
theorem padD_dec (k r : Nat) (hk : 0 < k) (hr : r < 10 ^ k) : padD k r = List.replicate (k - (decDigits r).length) 48 ++ decDigits r := by
  induction k generalizing r with
  | zero => omega
  | succ k ih =>
    rw [padD_succ]
    by_cases h : r < 10
    · rw [dec_small h, show r / 10 = 0 by omega, show r % 10 = r by omega, padD_zero]; simp
    · rw [dec_big h]
      rcases Nat.eq_zero_or_pos k with rfl | hk
      · simp at hr; omega
      · rw [Nat.pow_succ] at hr
        rw [ih (r / 10) hk (by omega), List.length_append, List.append_assoc]; simp [Nat.add_sub_add_right]
/-- the digits of groups, the lowest first -/
def grpV (B : Nat) : List Nat → Nat
  | [] => 0
  | x :: l => x + B * grpV B l
theorem dec_groups (l : List Nat) (t : Nat) (ht : 0 < t) (hl : ∀ x ∈ l, x < 10 ^ 9) : decDigits (grpV (10 ^ 9) (l ++ [t])) = decDigits t ++ (l.reverse.flatMap (padD 9)) := by
  induction l generalizing t with
  | nil => simp [grpV]
  | cons x l ih =>
    show decDigits (x + 10 ^ 9 * grpV (10 ^ 9) (l ++ [t])) = _
    have hpos : 0 < grpV (10 ^ 9) (l ++ [t]) := by
      clear ih hl
      induction l with
      | nil => show 0 < t + 10 ^ 9 * 0; omega
      | cons y l ih => show 0 < y + 10 ^ 9 * grpV _ (l ++ [t]); have := ih; omega
    rw [show x + 10 ^ 9 * grpV (10 ^ 9) (l ++ [t]) = grpV (10 ^ 9) (l ++ [t]) * 10 ^ 9 + x by rw [Nat.mul_comm, Nat.add_comm], dec_split 9 hpos (hl x (by simp)), ih t ht (fun y hy => hl y (by simp [hy])), List.reverse_cons, List.flatMap_append, List.append_assoc]
    simp
/-- k limbs of L M + g are made in place; c is what is carried -/
structure MulAdd (L : List Int) (M g : Int) (k : Nat) (L' : List Int) (c : Int) : Prop where
  len : L'.length = L.length
  wf : Wf L'
  c0 : 0 ≤ c
  c1 : c ≤ M
  eq : num (L'.take k) + 4294967296 ^ k * c = num (L.take k) * M + g
  rest : L'.drop k = L.drop k
theorem MulAdd.start {L : List Int} {M g : Int} (h : Wf L) (g0 : 0 ≤ g) (g1 : g ≤ M) : MulAdd L M g 0 L g := ⟨rfl, h, g0, g1, by simp [num], rfl⟩
theorem MulAdd.at {L L' : List Int} {M g c : Int} {k : Nat} (h : MulAdd L M g k L' c) : L'.getD k 0 = L.getD k 0 := by
  have h1 : (L'.drop k).getD 0 0 = (L.drop k).getD 0 0 := by rw [h.rest]
  simpa [List.getD, List.getElem?_drop] using h1
theorem MulAdd.step {L L' : List Int} {M g c x : Int} {k : Nat} (h : MulAdd L M g k L' c) (hM : 0 ≤ M) (hw : Wf L) (hk : k < L.length) (hx : L.getD k 0 = x) : MulAdd L M g (k + 1) (L'.set k ((c + x * M) % 4294967296)) ((c + x * M) / 4294967296) := by
  have hxr := hw.getD k
  rw [hx] at hxr
  obtain ⟨x0, x1⟩ := hxr
  have hs : 0 ≤ c + x * M := Int.add_nonneg h.c0 (Int.mul_nonneg x0 hM)
  have hs1 : c + x * M ≤ 4294967295 * M + M := Int.add_comm c _ ▸ Int.add_le_add (Int.mul_le_mul_of_nonneg_right (by omega) hM) h.c1
  have hkl : k < L'.length := by rw [h.len]; exact hk
  refine ⟨by rw [List.length_set]; exact h.len, h.wf.set _ ⟨Int.emod_nonneg _ (by omega), Int.emod_lt_of_pos _ (by omega)⟩, Int.ediv_nonneg hs (by omega), by omega, ?_, ?_⟩
  · rw [num_take_set _ _ _ hkl, num_take_next, hx, Int.pow_succ]
    have e := Int.mul_ediv_add_emod (c + x * M) 4294967296
    have h1 := h.eq
    generalize (c + x * M) / 4294967296 = q at *
    generalize (c + x * M) % 4294967296 = r at *
    rw [Int.mul_assoc, Int.add_assoc, ← Int.mul_add, show r + 4294967296 * q = c + x * M by omega, Int.mul_add, Int.add_mul, Int.mul_assoc]
    omega
  · rw [List.drop_set_of_lt (by omega), ← List.drop_drop, h.rest, List.drop_drop]
theorem MulAdd.all {L L' : List Int} {M g c : Int} (h : MulAdd L M g L.length L' c) : num L' + 4294967296 ^ L.length * c = num L * M + g := by
  have h1 := h.eq
  rw [List.take_of_length_le (by rw [h.len]; exact Nat.le_refl _), List.take_of_length_le (Nat.le_refl _)] at h1
  exact h1
/-- the digits of v in the base 10^9, 2^K of them, the lowest first -/
def digs : Nat → Nat → List Nat
  | 0, v => [v]
  | K + 1, v => digs K (v % 1000000000 ^ (2 ^ K)) ++ digs K (v / 1000000000 ^ (2 ^ K))
theorem digs_zero_len (K v : Nat) : (digs K v).length = 2 ^ K := by
  induction K generalizing v with
  | zero => rfl
  | succ K ih => show (digs K _ ++ digs K _).length = _; rw [List.length_append, ih, ih, Nat.pow_succ]; omega
theorem digs_null (K : Nat) : digs K 0 = List.replicate (2 ^ K) 0 := by
  induction K with
  | zero => rfl
  | succ K ih =>
    show digs K _ ++ digs K _ = _
    rw [Nat.zero_mod, Nat.zero_div, ih, List.replicate_append_replicate, Nat.pow_succ]; congr 1; omega
theorem grpV_append (B : Nat) (a b : List Nat) : grpV B (a ++ b) = grpV B a + B ^ a.length * grpV B b := by
  induction a with
  | nil => simp [grpV]
  | cons x a ih =>
    show x + B * grpV B (a ++ b) = x + B * grpV B a + B ^ (a.length + 1) * grpV B b
    rw [ih, Nat.mul_add, Nat.pow_succ, Nat.mul_comm (B ^ a.length) B, Nat.mul_assoc, Nat.add_assoc]
theorem digs_val (K v : Nat) : grpV 1000000000 (digs K v) = v := by
  induction K generalizing v with
  | zero => show v + 1000000000 * 0 = v; omega
  | succ K ih =>
    show grpV _ (digs K _ ++ digs K _) = v
    rw [grpV_append, ih, ih, digs_zero_len]
    have := Nat.div_add_mod v (1000000000 ^ 2 ^ K)
    omega
theorem digs_lt (K v : Nat) (h : v < 1000000000 ^ (2 ^ K)) : ∀ x ∈ digs K v, x < 1000000000 := by
  induction K generalizing v with
  | zero => intro x hx; rw [show digs 0 v = [v] from rfl, List.mem_singleton] at hx; rw [hx]; simpa using h
  | succ K ih =>
    intro x hx
    have hp : 0 < 1000000000 ^ 2 ^ K := Nat.pow_pos (by omega)
    rcases List.mem_append.1 (show x ∈ digs K _ ++ digs K _ from hx) with hx | hx
    · exact ih _ (Nat.mod_lt _ hp) x hx
    · refine ih _ ?_ x hx
      rw [Nat.div_lt_iff_lt_mul hp, ← Nat.pow_add]
      rw [show 2 ^ (K + 1) = 2 ^ K + 2 ^ K by rw [Nat.pow_succ]; omega] at h
      exact h
/-- a window of a list is exchanged -/
def putW (L : List Int) (o : Nat) (D : List Int) : List Int := L.take o ++ (D ++ L.drop (o + D.length))
theorem putW_len {L D : List Int} {o : Nat} (h : o + D.length ≤ L.length) : (putW L o D).length = L.length := by
  unfold putW; simp; omega
theorem putW_drop {L D : List Int} {o : Nat} (h : o + D.length ≤ L.length) : (putW L o D).drop (o + D.length) = L.drop (o + D.length) := by
  unfold putW
  rw [← List.append_assoc, List.drop_left' (by simp; omega)]
theorem putW_take {L D : List Int} {o : Nat} (h : o + D.length ≤ L.length) : (putW L o D).take (o + D.length) = L.take o ++ D := by
  unfold putW
  rw [← List.append_assoc, List.take_left' (by simp; omega)]
theorem putW_two {L D E : List Int} {o : Nat} (h : o + D.length + E.length ≤ L.length) : putW (putW L o D) (o + D.length) E = putW L o (D ++ E) := by
  have h1 := putW_take (L := L) (D := D) (o := o) (by omega)
  have h2 := putW_drop (L := L) (D := D) (o := o) (by omega)
  have h3 : (putW L o D).drop (o + D.length + E.length) = L.drop (o + D.length + E.length) := by
    rw [← List.drop_drop, h2, List.drop_drop]
  show (putW L o D).take (o + D.length) ++ (E ++ (putW L o D).drop (o + D.length + E.length)) = L.take o ++ ((D ++ E) ++ L.drop (o + (D ++ E).length))
  rw [h1, h3, List.length_append, List.append_assoc, List.append_assoc, Nat.add_assoc]
theorem putW_same {L : List Int} {o n : Nat} (h : (L.drop o).take n = List.replicate n 0) (hn : o + n ≤ L.length) : putW L o (List.replicate n 0) = L := by
  unfold putW
  rw [← h, List.length_take, List.length_drop, Nat.min_eq_left (by omega), ← List.drop_drop, List.take_append_drop, List.take_append_drop]
theorem putW_one {L : List Int} {o : Nat} (x : Int) (h : o < L.length) : putW L o [x] = L.set o x := by
  unfold putW
  rw [List.set_eq_take_append_cons_drop, if_pos h]; rfl
theorem dec_groups9 (l : List Nat) (t : Nat) (ht : 0 < t) (hl : ∀ x ∈ l, x < 1000000000) : Go.Lib.decDigits (grpV 1000000000 (l ++ [t])) = Go.Lib.decDigits t ++ (l.reverse.flatMap (padD 9)) := dec_groups l t ht hl
end Go.Proofs.YthicfkeiggcjjaaGreatDoor

namespace Go.Proofs.YthicfkeiggcjjaaGreatDoor
open Go Go.Shelf Go.RowKit Go.Sort

/-- the table of powers of ten -/
def Pow10 (w : World) : Prop := Lib.TabIs Tryz.prog w "internal/strconv.uint64pow10" .u64 Lib.pow10Tab
theorem Pow10.below {w w' : World} (h : Pow10 w) (hb : Below w.heap.size w w') : Pow10 w' := Lib.tabBelow_of_tabIs h w' hb

set_option maxHeartbeats 6400000 in
set_option maxRecDepth 100000 in
theorem formatUintI_any (u : Nat) (hu64 : u < 18446744073709551616) (w : World) (hP : Pow10 w) :
    Calls Tryz.prog 76 #[.int .u64 (u : Int), .int .i64 10] w fun e w' => e = .returned (.string ⟨(Lib.decDigits u).toArray⟩) ∧ Below w.heap.size w w' := by
  by_cases hs : u < 100
  · have hs' : (u : Int) < 100 := by omega
    have C := Lib.hid (fun w => Tryz.internal_strconv_small u hs w)
    go_enter Tryz.func76, Tryz.ntmps76
    go_wp2_with fail
    refine (C.out _).mono ?_
    rintro e w1 ⟨rfl, rfl⟩
    go_wp2
    go_ret
    exact ⟨rfl, Below.refl _ _⟩
  · have hs' : ¬ (u : Int) < 100 := by omega
    have hu1 : 1 ≤ u := by omega
    have hnd20 : Lib.nDigits u ≤ 20 := by have := Lib.numDigits_eq u hu1 hu64; split at this <;> omega
    have hal : Tryz.prog.arrayLen 119 = 24 := by simp [Program.arrayLen, Tryz.underlying119]
    have hsl : ∀ W, (Instr.sliceAt 119 (.pointer (some ⟨w.heap.size, 0, none⟩)) none (some (.int .i64 (Lib.nDigits u : Int))) none).run Tryz.prog W = .ok (.slice (some ⟨w.heap.size, 0, none⟩) (Lib.nDigits u) 24) W := fun W => by
      rw [run_sliceAt_array_h W 119 ⟨w.heap.size, 0, none⟩ (by simp [Program.arrayLen, Program.elem, Tryz.underlying119]) .i64 (Lib.nDigits u : Int) (by omega) (by rw [hal]; omega)]
      go_simp
    have hH0 := Lib.holds_zero0 w 119 (Lib.nDigits u) (by omega)
    have hfmt := Tryz.internal_strconv_formatBase10 w.heap.size 0 24 u (Array.replicate (Lib.nDigits u) 0) (w.alloc (.cells Lib.zeros24 119)) hH0 (by rw [Array.size_replicate]; exact Lib.lt_pow_nDigits u) hu64 (by rw [Array.size_replicate]; omega)
    rw [Array.size_replicate] at hfmt
    have HH0 := Lib.hid hH0
    have CN := Lib.hid (fun W (h : Below w.heap.size w W) => Tryz.internal_strconv_numDigits u hu1 hu64 W (hP.below h))
    have HF := Lib.hid hfmt
    clear hH0 hal hfmt hP
    go_enter Tryz.func76, Tryz.ntmps76
    go_wp2_with fail
    refine (CN.out _ ((Below.refl _ w).alloc (Nat.le_refl _) _)).mono ?_
    rintro e w1 ⟨rfl, rfl⟩
    go_wp2_with fail
    refine HF.out.mono ?_
    rintro e w2 ⟨rfl, k, v', dk, rfl, hF⟩
    have hcv : (convert 73 9 (.slice (some ⟨w.heap.size, 0, none⟩) (Lib.nDigits u) 24)).run Tryz.prog ((putRow (fun (b : UInt8) => Value.int .u8 (b.toNat : Int)) (w.alloc (.cells Lib.zeros24 119)) w.heap.size 0 dk).drewN k) = .ok (.string ⟨(Lib.decDigits u).toArray⟩) ((putRow (fun (b : UInt8) => Value.int .u8 (b.toNat : Int)) (w.alloc (.cells Lib.zeros24 119)) w.heap.size 0 dk).drewN k) := by
      have h := run_convert_bytes_back (P := Tryz.prog) ((putRow (fun (b : UInt8) => Value.int .u8 (b.toNat : Int)) (w.alloc (.cells Lib.zeros24 119)) w.heap.size 0 dk).drewN k) 73 9 5 ⟨w.heap.size, 0, none⟩ 24 (Lib.decDigits u) Tryz.underlying73 Tryz.underlying5 Tryz.underlying9 (fun j hj => by
        rw [Lib.row_is_numeral hF j hj, Lib.add_plain, World.cell?_drewN]
        exact cell?_putRow (fun (b : UInt8) => Value.int .u8 (b.toNat : Int)) _ w.heap.size 0 _ dk HH0.out (by rw [hF.size, Array.size_replicate]) j (by rw [hF.size]; rw [Lib.decDigits_length] at hj; exact hj))
      rw [Lib.decDigits_length] at h
      exact h
    obtain ⟨os, eo⟩ := Lib.fin_at w (.cells Lib.zeros24 119) dk k 0
    rw [eo] at hcv ⊢
    have HB := Lib.hid (Lib.below_grow w.heap.size w (Nat.le_refl _) k os)
    clear eo
    go_wp2
    go_ret
    exact ⟨rfl, HB.out⟩

set_option maxRecDepth 100000 in
theorem formatUint_any (u : Nat) (hu64 : u < 18446744073709551616) (w : World) (hP : Pow10 w) :
    Calls Tryz.prog 55 #[.int .u64 (u : Int), .int .i64 10] w fun e w' => e = .returned (.string ⟨(Lib.decDigits u).toArray⟩) ∧ Below w.heap.size w w' := by
  have C := Lib.hid (formatUintI_any u hu64 w hP)
  clear hP
  go_enter Tryz.func55, Tryz.ntmps55
  go_wp2_with fail
  refine C.out.mono ?_
  rintro e w1 ⟨rfl, hB⟩
  have HB := Lib.hid hB
  clear hB
  go_wp2
  go_ret
  exact ⟨rfl, HB.out⟩
end Go.Proofs.YthicfkeiggcjjaaGreatDoor

namespace Go.Proofs.YthicfkeiggcjjaaGreatDoor
open Go.ChangeShapes Go.WideShapes Go.ChangeAt Go.RowKit Go.Joins Go.Deep

theorem laid_rest {P : Program} {W : World} {x : String × DataW Unit} {rest : List (String × DataW Unit)} (h : laidMet P (x :: rest) W) : laidMet P rest W := by
  obtain ⟨ps, ⟨g', t', cs, fuel, p, q, _, _, _, _, hq, rfl⟩, hn, hc⟩ := h
  exact ⟨q, hq, (List.nodup_append.1 hn).2.1, fun b off hm => hc b off (List.mem_append_right _ hm)⟩

theorem pow10_of {x y : String × DataW Unit} {rest : List (String × DataW Unit)} {W : World} (h : laidMet Tryz.prog (x :: y :: ("internal/strconv.uint64pow10", Rows.laid_internal_strconv_uint64pow10) :: rest) W) : Pow10 W :=
  Lib.tabIs_of_head (g := 0) (t := 135) (e := 82) (n := 20) (rest := rest) (by kernel_rfl) (by kernel_rfl) (by kernel_rfl) (by kernel_rfl) (by kernel_rfl) (by kernel_rfl) (laid_rest (laid_rest h))
end Go.Proofs.YthicfkeiggcjjaaGreatDoor

namespace Go.Proofs.YthicfkeiggcjjaaGreatDoor
open Go.RowKit

/-- the table that bits.TrailingZeros64 reads -/
def Table64 (w : World) : Prop := TabAt 2 Lib.deBruijn64tab w
theorem Table64.below {w w' : World} (h : Table64 w) (hb : Below w.heap.size w w') : Table64 w' := by
  intro j hj
  have h1 := h j hj
  rw [hb.cell (p := ⟨_, j, none⟩) (lt_of_cell h1)]
  exact h1

set_option maxRecDepth 100000 in
set_option maxHeartbeats 1000000 in
theorem tz64_at (x k idx : Nat) (w : World) (hx0 : ((x : Int) == 0) = false)
    (key : IntKind.u64.wrap (bits BinOp.and IntKind.u64 (x : Int) (IntKind.u64.wrap (-(x : Int))) * 285870213051353865) / 288230376151711744 = (idx : Int))
    (hi : idx < 64) (hk : k < 64) (hcell : w.cell? ⟨2, idx, none⟩ = some (.int .u8 k)) :
    Calls Tryz.prog 105 #[.int .u64 x] w fun e w' => e = .returned (.int .i64 k) ∧ w = w' := by
  go_enter Tryz.func105, Tryz.ntmps105
  go_wp2_with (simp only [key])
  go_ret
  exact ⟨rfl, rfl⟩

theorem tz64_any (x : Nat) (h0 : x ≠ 0) (h1 : x < 18446744073709551616) (w : World) (hT : Table64 w) :
    Calls Tryz.prog 105 #[.int .u64 x] w fun e w' => ∃ t : Nat, e = .returned (.int .i64 (t : Int)) ∧ IsTz x t ∧ t < 64 ∧ w = w' := by
  obtain ⟨hlow, hk⟩ := Lib.lowest_bit 64 x h0 h1
  obtain ⟨hi, htab⟩ := Lib.deBruijn64_at _ hk
  have hcell := hT _ hi
  rw [htab] at hcell
  refine (tz64_at x _ _ w (by simp; omega) (tz64_key x _ h1 h0 hlow) hi hk hcell).mono fun e w' ⟨he, hw⟩ => ⟨_, he, ?_, hk, hw⟩
  have hc : Lib.ctz 64 x = Lib.ctzFrom 64 x := by unfold Lib.ctz; rw [if_neg h0]
  obtain ⟨m, hm, hlt⟩ := Lib.ctzFrom_spec 64 x (by omega) (by omega)
  rw [hc]
  exact Or.inr ⟨h0, m, hm⟩

end Go.Proofs.YthicfkeiggcjjaaGreatDoor

namespace Go.Proofs.YthicfkeiggcjjaaGreatDoor
open Go.ChangeShapes Go.WideShapes Go.ChangeAt Go.RowKit Go.Joins Go.Deep

theorem mtab64_of {x : String × DataW Unit} {rest : List (String × DataW Unit)} {W : World} (h : laidMet Tryz.prog (x :: ("math/bits.deBruijn64tab", Rows.laid_math_bits_deBruijn64tab) :: rest) W) : Table64 W := by
  have h1 : Lib.TabIs Tryz.prog W "math/bits.deBruijn64tab" .u8 (Lib.deBruijn64tab.map fun (n : Nat) => (n : Int)) :=
    Lib.tabIs_of_head (g := 2) (t := 139) (e := 5) (n := 64) (rest := rest) (by kernel_rfl) (by kernel_rfl) (by kernel_rfl) (by kernel_rfl) (by kernel_rfl) (by kernel_rfl) (laid_rest h)
  intro j hj
  have h2 := h1.cell (g := 2) (by kernel_rfl) j (by simpa using hj)
  rw [h2]
  simp [List.getD, hj]
end Go.Proofs.YthicfkeiggcjjaaGreatDoor

namespace Go.Proofs.YthicfkeiggcjjaaGreatDoor
open Go.RowKit

set_option maxRecDepth 100000 in
set_option maxHeartbeats 400000 in
theorem signed_zero (nb : Bool) (ao : Option Addr) (cap : Nat) (w : World) :
    Calls Tryz.prog 65 #[.bool nb, .slice ao 0 cap] w fun e w' => e = .returned (.agg #[.bool false, .slice none 0 0]) ∧ Below w.heap.size w w' := by
  go_enter Tryz.func65, Tryz.ntmps65
  go_wp2
  exact bodyPost_ret (v := .agg #[.bool false, .slice none 0 0]) (by simp [results, Tryz.results65, go_sem]) rfl ⟨rfl, ((Below.refl _ _).alloc (Nat.le_refl _) _)⟩
set_option maxRecDepth 100000 in
set_option maxHeartbeats 400000 in
theorem signed_pos (nb : Bool) (ao : Option Addr) (n cap : Nat) (w : World) (h : 0 < n) :
    Calls Tryz.prog 65 #[.bool nb, .slice ao n cap] w fun e w' => e = .returned (.agg #[.bool nb, .slice ao n cap]) ∧ Below w.heap.size w w' := by
  have hn : ((n : Int) == 0) = false := beq_eq_false_iff_ne.2 (by omega)
  go_enter Tryz.func65, Tryz.ntmps65
  go_wp2
  exact bodyPost_ret (v := .agg #[.bool nb, .slice ao n cap]) (by simp [results, Tryz.results65, go_sem]) rfl ⟨rfl, ((Below.refl _ _).alloc (Nat.le_refl _) _)⟩

/-- whatever the limbs: they stay, and zero is not negative -/
theorem signed_any (nb : Bool) (ao : Option Addr) (n cap : Nat) (zs : List Int) (w : World) (h : Sl w ao n cap zs) :
    Calls Tryz.prog 65 #[.bool nb, .slice ao n cap] w fun e w' => ∃ ao' cap', e = .returned (.agg #[.bool (nb && decide (0 < n)), .slice ao' n cap']) ∧ Sl w' ao' n cap' zs ∧ Below w.heap.size w w' := by
  by_cases h0 : 0 < n
  · refine (signed_pos nb ao n cap w h0).mono fun e w' ⟨he, hw⟩ => ⟨ao, cap, ?_, h.below hw, hw⟩
    rw [he]; simp [h0]
  · obtain rfl : n = 0 := by omega
    have hz : zs = [] := List.eq_nil_of_length_eq_zero h.len
    subst hz
    exact (signed_zero nb ao cap w).mono fun e w' ⟨he, hw⟩ => ⟨none, 0, by rw [he]; simp, Sl.nil w', hw⟩
end Go.Proofs.YthicfkeiggcjjaaGreatDoor
