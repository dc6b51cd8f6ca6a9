import Derived.Test.YtolghagbpnjpgaaGreatDoorANormU1
import Derived.Test.YtolghagbpnjpgaaGreatDoorANormU22
import Derived.Test.YtolghagbpnjpgaaGreatDoorANormU21
namespace Go.Proofs.YtolghagbpnjpgaaGreatDoor
open Go.ChangeShapes Go.WideShapes Go.ChangeAt Go.RowKit Go.Joins Go.Deep

theorem laid_tail {P : Program} {W : World} {x : String × DataW Unit} {rest : List (String × DataW Unit)} (h : laidMet P (x :: rest) W) : laidMet P rest W := by
  obtain ⟨ps, ⟨g', t', cs, fuel, p, q, _, _, _, _, hq, rfl⟩, hn, hc⟩ := h
  exact ⟨q, hq, (List.nodup_append.1 hn).2.1, fun b off hm => hc b off (List.mem_append_right _ hm)⟩

theorem table64_of {x : String × DataW Unit} {rest : List (String × DataW Unit)} {W : World} (h : laidMet Tryz.prog (x :: ("math/bits.deBruijn64tab", Rows.laid_math_bits_deBruijn64tab) :: rest) W) : Table64 W := by
  have h1 : Lib.TabIs Tryz.prog W "math/bits.deBruijn64tab" .u8 (Lib.deBruijn64tab.map fun (n : Nat) => (n : Int)) :=
    Lib.tabIs_of_head (g := 2) (t := 156) (e := 5) (n := 64) (rest := rest) (by kernel_rfl) (by kernel_rfl) (by kernel_rfl) (by kernel_rfl) (by kernel_rfl) (by kernel_rfl) (laid_tail h)
  intro j hj
  have h2 := h1.cell (g := 2) (by kernel_rfl) j (by simpa using hj)
  rw [h2]
  simp [List.getD, hj]
end Go.Proofs.YtolghagbpnjpgaaGreatDoor

namespace Go.Proofs.YtolghagbpnjpgaaGreatDoor
open Go.RowKit

theorem sh_wrap {y : Int} {r : Nat} (hr : r < 32) (y0 : 0 ≤ y) (y1 : y < 4294967296) : 0 ≤ y * 2 ^ r ∧ y * 2 ^ r ≤ 9223372034707292160 ∧ IntKind.u64.wrap (y * 2 ^ r) = y * 2 ^ r := by
  have hp : (0 : Int) < 2 ^ r := Int.pow_pos (by omega)
  have h1 : (2 : Int) ^ r ≤ 2147483648 := by
    have : (2 : Nat) ^ r ≤ 2 ^ 31 := Nat.pow_le_pow_right (by omega) (by omega)
    have h2 : ((2 ^ r : Nat) : Int) ≤ ((2 ^ 31 : Nat) : Int) := Int.ofNat_le.2 this
    rw [Int.natCast_pow] at h2
    exact h2
  have h0 : 0 ≤ y * 2 ^ r := Int.mul_nonneg y0 (Int.le_of_lt hp)
  have h2 : y * 2 ^ r ≤ 4294967295 * 2 ^ r := Int.mul_le_mul_of_nonneg_right (by omega) (Int.le_of_lt hp)
  refine ⟨h0, by omega, ?_⟩
  rw [IntKind.wrap_u64]
  exact Int.emod_eq_of_lt h0 (by omega)

theorem sh_step (s i : Nat) (y R N : Int) : 4294967296 ^ s * (N * R) + 4294967296 ^ (s + i) * (y * R) = 4294967296 ^ s * ((N + 4294967296 ^ i * y) * R) := by
  rw [Int.pow_add, Int.add_mul, Int.mul_add]
  simp only [Int.mul_assoc]

/-- limbs without a leading zero need their room -/
theorem sh_room {ys : List Int} {m n s r : Nat} {A : Int} (hm : ys.length = m) (hw : Wf ys) (h0 : 0 < m) (htop : ys.getD (m - 1) 0 ≠ 0) (hA : 0 ≤ A) (hfit : A + num ys * 2 ^ (s * 32 + r) < 4294967296 ^ n) : s + m ≤ n := by
  have h1 : num ys = num (ys.take (m - 1)) + 4294967296 ^ (m - 1) * ys.getD (m - 1) 0 := by
    have := num_take_succ ys (m - 1) (by omega)
    rw [show m - 1 + 1 = m by omega, List.take_of_length_le (by omega)] at this
    exact this
  have h2 := num_nonneg (hw.take (m - 1))
  have h3 := hw.getD (m - 1)
  have h4 : (4294967296 : Int) ^ (m - 1) * 1 ≤ 4294967296 ^ (m - 1) * ys.getD (m - 1) 0 := Int.mul_le_mul_of_nonneg_left (by omega) (Int.le_of_lt (pow_pos' _))
  have h5 : (4294967296 : Int) ^ (m - 1) ≤ num ys := by omega
  have hp : (0 : Int) < 2 ^ (s * 32 + r) := Int.pow_pos (by omega)
  have h6 : (4294967296 : Int) ^ (m - 1) * 2 ^ (s * 32 + r) ≤ num ys * 2 ^ (s * 32 + r) := Int.mul_le_mul_of_nonneg_right h5 (Int.le_of_lt hp)
  have h7 : (4294967296 : Int) ^ (m - 1 + s) ≤ 4294967296 ^ (m - 1) * 2 ^ (s * 32 + r) := by
    rw [Int.pow_add]
    refine Int.mul_le_mul_of_nonneg_left ?_ (Int.le_of_lt (pow_pos' _))
    have : (4294967296 : Nat) ^ s ≤ 2 ^ (s * 32 + r) := by
      rw [show (4294967296 : Nat) = 2 ^ 32 by rfl, ← Nat.pow_mul]
      exact Nat.pow_le_pow_right (by omega) (by omega)
    have h8 : ((4294967296 ^ s : Nat) : Int) ≤ ((2 ^ (s * 32 + r) : Nat) : Int) := Int.ofNat_le.2 this
    rw [Int.natCast_pow, Int.natCast_pow] at h8
    exact h8
  have h9 : (4294967296 : Int) ^ (m - 1 + s) < 4294967296 ^ n := by omega
  have h10 : ((4294967296 ^ (m - 1 + s) : Nat) : Int) < ((4294967296 ^ n : Nat) : Int) := by rw [Int.natCast_pow, Int.natCast_pow]; exact h9
  have h11 := (Nat.pow_lt_pow_iff_right (show 1 < 4294967296 by omega)).1 (Int.ofNat_lt.1 h10)
  omega

theorem sh_val (N : Int) (s r : Nat) : 4294967296 ^ s * (N * 2 ^ r) = N * 2 ^ (s * 32 + r) := by
  have : (4294967296 : Int) ^ s = 2 ^ (s * 32) := by rw [Nat.mul_comm, Int.pow_mul]; rfl
  rw [this, Int.pow_add, Int.mul_left_comm]

set_option maxRecDepth 100000 in
set_option maxHeartbeats 2000000 in
theorem addShifted_raw (g n cap m cb s r : Nat) (bo : Option Addr) (L ys : List Int) (w : World) (hL : Blk w g L) (hl : L.length = n) (hw : Wf L) (hn : n ≤ 1000000) (hcap : n ≤ cap) (hsm : s + m ≤ n) (hsn : s < n) (hr32 : r < 32)
    (hbl : ys.length = m) (hbw : Wf ys) (hst : Stay g w bo ys) (hfit : num L + 4294967296 ^ s * (num ys * 2 ^ r) < 4294967296 ^ n) :
    Calls Tryz.prog 226 #[.slice (some ⟨g, 0, none⟩) n cap, .slice bo m cb, .int .i64 ((s * 32 + r : Nat) : Int)] w fun e w' => e = .returned (.tuple #[]) ∧ ∃ L', Blk w' g L' ∧ L'.length = n ∧ Wf L' ∧ num L' = num L + 4294967296 ^ s * (num ys * 2 ^ r) ∧ Only g w w' := by
  have hd : ((s * 32 + r : Nat) : Int) / 32 = (s : Int) := by omega
  have hr : ((s * 32 + r : Nat) : Int) % 32 = (r : Int) := by omega
  obtain ⟨x, hx⟩ : ∃ x : Int, ((s * 32 + r : Nat) : Int) = x := ⟨_, rfl⟩
  rw [hx] at hd hr ⊢
  have hx0 : 0 ≤ x := by omega
  have hx1 : x ≤ 100000000000 := by omega
  have HX := Lib.hid hx; clear hx
  have HL := Lib.hid hl; clear hl
  have HB := Lib.hid hbl; clear hbl
  have HF := Lib.hid hfit; clear hfit
  go_enter Tryz.func226, Tryz.ntmps226
  go_wp2
  go_loopw [6, 7] (fun c j wr => ∃ (i : Nat) (cc : Int) (Li : List Int), s + i ≤ n ∧ j = .int .i64 i ∧ c = .int .u64 cc ∧ 0 ≤ cc ∧ cc ≤ 4294967296 ∧ Added L Li (s + i) cc (4294967296 ^ s * (num (ys.take i) * 2 ^ r)) ∧ Blk wr g Li ∧ Only g w wr)
    (fun _ j _ => n - (intOf j).toNat)
  case atStart => exact ⟨0, 0, L, by omega, rfl, rfl, by omega, by omega, ⟨rfl, hw, rfl, by simp [num]⟩, hL, Only.refl g w⟩
  case round =>
    obtain ⟨i, cc, Li, hi, rfl, rfl, hc0, hc1, hA, hbk, ho⟩ := hrel
    by_cases hlt : i < m
    · obtain ⟨bb, ob, rfl, hcb⟩ := hst _ ho (by rw [HB.out]; omega)
      have c1 := hcb i (by rw [HB.out]; omega)
      clear hcb
      have c2 := hbk.cell (s + i) (by rw [hA.1, HL.out]; omega)
      have c3 := hbk.frozen (s + i)
      rw [getD_of_drop hA.2.2.1] at c2
      have hxr := hw.getD (s + i)
      have hyr := hbw.getD i
      obtain ⟨v, hv⟩ : ∃ v, L.getD (s + i) 0 = v := ⟨_, rfl⟩
      obtain ⟨y, hy⟩ : ∃ y, ys.getD i 0 = y := ⟨_, rfl⟩
      rw [hv] at c2 hxr
      rw [hy] at c1 hyr
      have HV := Lib.hid hv; clear hv
      have HY := Lib.hid hy; clear hy
      obtain ⟨x0, x1⟩ := hxr
      obtain ⟨y0, y1⟩ := hyr
      obtain ⟨p0, p1, p2⟩ := sh_wrap hr32 y0 y1
      obtain ⟨p, hp⟩ : ∃ p, y * 2 ^ r = p := ⟨_, rfl⟩
      rw [hp] at p0 p1
      have hpw : IntKind.u64.wrap (y * 2 ^ r) = p := by rw [p2, hp]
      have HP := Lib.hid hp; clear hp p2
      have HA := Lib.hid hA; clear hA
      go_wp2
      go_roundw
      case rel =>
        have st := HA.out.step (by rw [HL.out]; omega) p (cc + p + v) (by rw [HV.out]; omega)
        rw [← HP.out, sh_step, ← HY.out, ← num_take_succ ys i (by rw [HB.out]; exact hlt), HY.out, HP.out] at st
        exact ⟨i + 1, _, _, by omega, by go_num, rfl, by omega, by omega, st, hbk.set _ _, ho.setCell _ _⟩
      case measure => simp [intOf] <;> omega
    · have ht : ys.take i = ys := List.take_of_length_le (by rw [HB.out]; omega)
      rw [ht] at hA
      by_cases hcc : 0 < cc
      · have hin : s + i < n := by have := hA.fits (by rw [HL.out]; exact hi) (by rw [HL.out]; exact HF.out) hcc; rw [HL.out] at this; exact this
        have c2 := hbk.cell (s + i) (by rw [hA.1, HL.out]; omega)
        have c3 := hbk.frozen (s + i)
        rw [getD_of_drop hA.2.2.1] at c2
        have hxr := hw.getD (s + i)
        obtain ⟨v, hv⟩ : ∃ v, L.getD (s + i) 0 = v := ⟨_, rfl⟩
        rw [hv] at c2 hxr
        have HV := Lib.hid hv; clear hv
        obtain ⟨x0, x1⟩ := hxr
        have HA := Lib.hid hA; clear hA
        have HT := Lib.hid ht; clear ht
        go_wp2
        go_roundw
        case rel =>
          have st := HA.out.step (by rw [HL.out]; omega) 0 (cc + v) (by rw [HV.out]; omega)
          rw [Int.mul_zero, Int.add_zero] at st
          refine ⟨i + 1, _, _, by omega, by go_num, rfl, by omega, by omega, ?_, hbk.set _ _, ho.setCell _ _⟩
          rw [List.take_of_length_le (by rw [HB.out]; omega)]
          exact st
        case measure => simp [intOf] <;> omega
      · obtain rfl : cc = 0 := by omega
        have HA := Lib.hid hA; clear hA
        go_wp2
        go_end0
        exact ⟨rfl, Li, hbk, by rw [HA.out.1, HL.out], HA.out.2.1, HA.out.done, ho⟩

/-- it adds m times a power of two -/
theorem addShifted_any (g n cap m cb k : Nat) (kI : Int) (bo : Option Addr) (L : List Int) (a : Nat) (w : World) (hk : (k : Int) = kI) (hL : Blk w g L) (hl : L.length = n) (hw : Wf L) (hn : n ≤ 1000000) (hcap : n ≤ cap) (ha : a ≠ 0)
    (hbl : (limbs a).length = m) (hst : Stay g w bo (limbs a)) (hfit : num L + (a : Int) * 2 ^ k < 4294967296 ^ n) :
    Calls Tryz.prog 226 #[.slice (some ⟨g, 0, none⟩) n cap, .slice bo m cb, .int .i64 kI] w fun e w' => e = .returned (.tuple #[]) ∧ ∃ L', Blk w' g L' ∧ L'.length = n ∧ Wf L' ∧ num L' = num L + (a : Int) * 2 ^ k ∧ Only g w w' := by
  subst hk
  obtain ⟨s, r, hr, rfl⟩ : ∃ s r, r < 32 ∧ k = s * 32 + r := ⟨k / 32, k % 32, by omega, by omega⟩
  have hm0 : 0 < m := by
    rcases Nat.eq_zero_or_pos m with h | h
    · exfalso; apply ha; rw [h] at hbl
      exact limbs_inj (by rw [limbs_zero]; exact List.eq_nil_of_length_eq_zero hbl)
    · exact h
  have htop : (limbs a).getD (m - 1) 0 ≠ 0 := by
    intro h0
    have h2 := tlen_eq (Wf.limbs a)
    rw [num_limbs, show ((a : Int)).toNat = a by omega, hbl] at h2
    have h3 : tlen (limbs a) m ≤ m - 1 := by
      obtain ⟨j, rfl⟩ : ∃ j, m = j + 1 := ⟨m - 1, by omega⟩
      rw [tlen, if_pos (by simpa using h0)]
      exact tlen_le _ _
    omega
  have hroom := sh_room (n := n) hbl (Wf.limbs a) hm0 htop (num_nonneg hw) (by rw [num_limbs]; exact hfit)
  have := addShifted_raw g n cap m cb s r bo L (limbs a) w hL hl hw hn hcap hroom (by omega) hr hbl (Wf.limbs a) hst (by rw [sh_val, num_limbs]; exact hfit)
  rw [sh_val, num_limbs] at this
  exact this
end Go.Proofs.YtolghagbpnjpgaaGreatDoor

namespace Go.Proofs.YtolghagbpnjpgaaGreatDoor

theorem dadd_none (d : Dy) : dadd none d = none := by cases d <;> rfl
theorem dadd_none' (d : Dy) : dadd d none = none := by cases d <;> rfl
theorem dmul_none' (d : Dy) : dmul d none = none := by cases d <;> rfl
theorem dsub_none' (d : Dy) : dsub d none = none := dadd_none' d

theorem abs_add_lt {x y : Int} {B : Nat} (hx : x.natAbs < 2 ^ B) (hy : y.natAbs < 2 ^ B) : (x + y).natAbs < 2 ^ (B + 1) := by
  have h3 := Int.natAbs_add_le x y
  rw [Nat.pow_succ]
  omega
theorem abs_mul_lt {x y : Int} {B C : Nat} (hx : x.natAbs < 2 ^ B) (hy : y.natAbs < 2 ^ C) : (x * y).natAbs < 2 ^ (B + C) := by
  rw [Int.natAbs_mul, Nat.pow_add]
  by_cases h0 : y.natAbs = 0
  · rw [h0, Nat.mul_zero]; exact Nat.mul_pos (Nat.pow_pos (by omega)) (Nat.pow_pos (by omega))
  · exact Nat.mul_lt_mul_of_lt_of_le hx (Nat.le_of_lt hy) (Nat.pow_pos (by omega))

theorem lt_up {x B : Nat} (h : x < 2 ^ B) : x < 2 ^ (B + 1) := Nat.lt_trans h (Nat.pow_lt_pow_right (by omega) (by omega))

section
variable {a b c : Dy}
end

end Go.Proofs.YtolghagbpnjpgaaGreatDoor

namespace Go.Proofs.YtolghagbpnjpgaaGreatDoor

/-- the sum of all, in units of 2^-65536 -/
def scs : List Dy → Int
  | [] => 0
  | d :: l => sc d + scs l

/-- the sum of all; none if one of them is none -/
def dtotal (l : List Dy) : Dy := if none ∈ l then none else dmk (scs l) (-65536)

/-- the terms that are not zero -/
def keptT : List Dy → List (Int × Int)
  | [] => []
  | some (m, e) :: l => if m = 0 then keptT l else (m, e) :: keptT l
  | none :: l => keptT l

theorem keptT_append (a b : List Dy) : keptT (a ++ b) = keptT a ++ keptT b := by
  induction a with
  | nil => simp [keptT]
  | cons d l ih =>
    match d with
    | none => simpa [keptT] using ih
    | some (m, e) =>
      simp only [List.cons_append, keptT, ih]
      split <;> simp

theorem keptT_len (l : List Dy) : (keptT l).length ≤ l.length := by
  induction l with
  | nil => simp [keptT]
  | cons d l ih =>
    match d with
    | none => simp only [keptT, List.length_cons]; omega
    | some (m, e) =>
      simp only [keptT]
      split <;> simp only [List.length_cons] <;> omega

theorem scs_kept {l : List Dy} (h : none ∉ l) : scs ((keptT l).map some) = scs l := by
  induction l with
  | nil => rfl
  | cons d l ih =>
    have hl : none ∉ l := fun hm => h (List.mem_cons_of_mem _ hm)
    match d with
    | none => exact absurd List.mem_cons_self h
    | some (m, e) =>
      simp only [keptT]
      split
      · rename_i h0
        subst h0
        simp only [scs, ih hl, sc_some, Int.zero_mul, Int.zero_add]
      · simp only [List.map_cons, scs, ih hl]

/-- an odd number within the limits -/
def TermOk (t : Int × Int) : Prop := t.1.natAbs % 2 = 1 ∧ -65536 ≤ t.2 ∧ t.2 + blen t.1.natAbs ≤ 65536

theorem keptT_ok {l : List Dy} (h : ∀ d ∈ l, Nd d) : ∀ t ∈ keptT l, TermOk t := by
  induction l with
  | nil => intro t ht; cases ht
  | cons d l ih =>
    have hl := ih fun d hd => h d (List.mem_cons_of_mem _ hd)
    match d with
    | none => exact hl
    | some (m, e) =>
      simp only [keptT]
      split
      · exact hl
      · rename_i h0
        intro t ht
        rcases List.mem_cons.1 ht with rfl | ht
        · rcases h _ List.mem_cons_self with ⟨h1, _⟩ | h1
          · exact absurd h1 h0
          · exact h1
        · exact hl t ht

def lowT (l : List (Int × Int)) : Int := l.foldl (fun a t => min a t.2) 65536
def highT (l : List (Int × Int)) : Int := l.foldl (fun a t => max a (t.2 + (blen t.1.natAbs : Int))) (-65536)
theorem lowT_next {l : List (Int × Int)} {j : Nat} (h : j < l.length) : lowT (l.take (j + 1)) = min (lowT (l.take j)) (l.getD j (0, 0)).2 := by
  unfold lowT
  rw [List.take_succ_eq_append_getElem h, List.foldl_append]
  simp [List.getD, h]
theorem highT_next {l : List (Int × Int)} {j : Nat} (h : j < l.length) : highT (l.take (j + 1)) = max (highT (l.take j)) ((l.getD j (0, 0)).2 + (blen (l.getD j (0, 0)).1.natAbs : Int)) := by
  unfold highT
  rw [List.take_succ_eq_append_getElem h, List.foldl_append]
  simp [List.getD, h]
theorem lowT_facts {l : List (Int × Int)} (h : ∀ t ∈ l, TermOk t) : -65536 ≤ lowT l ∧ lowT l ≤ 65536 ∧ ∀ t ∈ l, lowT l ≤ t.2 := by
  have : ∀ (l : List (Int × Int)) (a : Int), -65536 ≤ a → (∀ t ∈ l, TermOk t) → -65536 ≤ l.foldl (fun a t => min a t.2) a ∧ l.foldl (fun a t => min a t.2) a ≤ a ∧ ∀ t ∈ l, l.foldl (fun a t => min a t.2) a ≤ t.2 := by
    intro l
    induction l with
    | nil => intro a ha _; exact ⟨ha, Int.le_refl _, fun t ht => by cases ht⟩
    | cons x l ih =>
      intro a ha h
      have hx := (h x List.mem_cons_self).2.1
      obtain ⟨h1, h2, h3⟩ := ih (min a x.2) (by omega) fun t ht => h t (List.mem_cons_of_mem _ ht)
      refine ⟨h1, ?_, ?_⟩
      · show l.foldl _ (min a x.2) ≤ a
        omega
      · intro t ht
        show l.foldl _ (min a x.2) ≤ _
        rcases List.mem_cons.1 ht with rfl | ht
        · omega
        · exact h3 t ht
  exact this l 65536 (by omega) h
theorem highT_facts {l : List (Int × Int)} (h : ∀ t ∈ l, TermOk t) : -65536 ≤ highT l ∧ highT l ≤ 65536 ∧ ∀ t ∈ l, t.2 + (blen t.1.natAbs : Int) ≤ highT l := by
  have : ∀ (l : List (Int × Int)) (a : Int), a ≤ 65536 → (∀ t ∈ l, TermOk t) → l.foldl (fun a t => max a (t.2 + (blen t.1.natAbs : Int))) a ≤ 65536 ∧ a ≤ l.foldl (fun a t => max a (t.2 + (blen t.1.natAbs : Int))) a ∧ ∀ t ∈ l, t.2 + (blen t.1.natAbs : Int) ≤ l.foldl (fun a t => max a (t.2 + (blen t.1.natAbs : Int))) a := by
    intro l
    induction l with
    | nil => intro a ha _; exact ⟨ha, Int.le_refl _, fun t ht => by cases ht⟩
    | cons x l ih =>
      intro a ha h
      have hx := (h x List.mem_cons_self).2.2
      obtain ⟨h1, h2, h3⟩ := ih (max a (x.2 + (blen x.1.natAbs : Int))) (by omega) fun t ht => h t (List.mem_cons_of_mem _ ht)
      refine ⟨h1, ?_, ?_⟩
      · show a ≤ l.foldl _ (max a (x.2 + (blen x.1.natAbs : Int)))
        omega
      · intro t ht
        show _ ≤ l.foldl _ (max a (x.2 + (blen x.1.natAbs : Int)))
        rcases List.mem_cons.1 ht with rfl | ht
        · omega
        · exact h3 t ht
  obtain ⟨h1, h2, h3⟩ := this l (-65536) (by omega) h
  exact ⟨h2, h1, h3⟩

/-- the terms of one sign (s: the negative ones), in units of 2^f -/
def signT (s : Bool) (f : Int) : List (Int × Int) → Nat
  | [] => 0
  | t :: l => (if decide (t.1 < 0) = s then t.1.natAbs * 2 ^ (t.2 - f).toNat else 0) + signT s f l

theorem signT_append (s : Bool) (f : Int) (a b : List (Int × Int)) : signT s f (a ++ b) = signT s f a + signT s f b := by
  induction a with
  | nil => simp [signT]
  | cons d l ih => simp only [List.cons_append, signT, ih]; omega

theorem signT_next (s : Bool) (f : Int) {l : List (Int × Int)} {j : Nat} (h : j < l.length) :
    signT s f (l.take (j + 1)) = signT s f (l.take j) + if decide ((l.getD j (0, 0)).1 < 0) = s then (l.getD j (0, 0)).1.natAbs * 2 ^ ((l.getD j (0, 0)).2 - f).toNat else 0 := by
  rw [List.take_succ_eq_append_getElem h, signT_append]
  simp [signT, List.getD, h]

theorem signT_le {s : Bool} {f : Int} {W : Nat} {l : List (Int × Int)} (h : ∀ t ∈ l, f ≤ t.2 ∧ t.2 + (blen t.1.natAbs : Int) ≤ f + W) : signT s f l ≤ l.length * 2 ^ W := by
  induction l with
  | nil => simp [signT]
  | cons t l ih =>
    have hl := ih fun t ht => h t (List.mem_cons_of_mem _ ht)
    have ht := h t List.mem_cons_self
    have h1 : t.1.natAbs * 2 ^ (t.2 - f).toNat ≤ 2 ^ W := by
      have h2 := Nat.le_of_lt (blen_lt t.1.natAbs)
      have h3 := Nat.mul_le_mul_right (2 ^ (t.2 - f).toNat) h2
      rw [← Nat.pow_add] at h3
      exact Nat.le_trans h3 (Nat.pow_le_pow_right (by omega) (by omega))
    simp only [signT, List.length_cons, Nat.add_mul, Nat.one_mul]
    split <;> omega

/-- all of them fit into the limbs -/
theorem signT_fits {s : Bool} {f : Int} {W k b n : Nat} {l : List (Int × Int)} (h : ∀ t ∈ l, f ≤ t.2 ∧ t.2 + (blen t.1.natAbs : Int) ≤ f + W) (hk : l.length = k) (hb : k < 2 ^ b) (hn : W + b < 32 * n) : signT s f l < 4294967296 ^ n := by
  have h1 := signT_le (s := s) h
  rw [hk] at h1
  have h2 : k * 2 ^ W < 2 ^ b * 2 ^ W := Nat.mul_lt_mul_of_pos_right hb (Nat.pow_pos (by omega))
  rw [← Nat.pow_add] at h2
  have h3 : 2 ^ (b + W) ≤ 4294967296 ^ n := pow_limbs (by omega)
  omega

theorem signT_take_le (s : Bool) (f : Int) (l : List (Int × Int)) (j : Nat) : signT s f (l.take j) ≤ signT s f l := by
  conv => rhs; rw [← List.take_append_drop j l, signT_append]
  omega

theorem signT_diff {f : Int} {l : List (Int × Int)} (hf : -65536 ≤ f) (h : ∀ t ∈ l, f ≤ t.2) : ((signT false f l : Int) - signT true f l) * 2 ^ (f + 65536).toNat = scs (l.map some) := by
  induction l with
  | nil => simp [signT, scs]
  | cons t l ih =>
    have hl := ih fun t ht => h t (List.mem_cons_of_mem _ ht)
    have ht := h t List.mem_cons_self
    obtain ⟨m, e⟩ := t
    simp only at ht
    simp only [List.map_cons, scs, ← hl, signT]
    rw [sc_shift hf ht]
    have hp : ((m.natAbs * 2 ^ (e - f).toNat : Nat) : Int) = (m * 2 ^ (e - f).toNat).natAbs := by rw [natAbs_shift]
    have hp0 := two_pos (e - f).toNat
    by_cases hm : m < 0
    · have hneg : m * 2 ^ (e - f).toNat < 0 := Int.mul_neg_of_neg_of_pos hm hp0
      rw [if_neg (by simp [hm]), if_pos (by simp [hm])]
      simp only [Nat.zero_add, Int.natCast_add, hp]
      rw [← Int.add_mul]
      congr 1
      omega
    · have hpos : 0 ≤ m * 2 ^ (e - f).toNat := Int.mul_nonneg (by omega) (by omega)
      rw [if_pos (by simp [hm]), if_neg (by simp [hm])]
      simp only [Nat.zero_add, Int.natCast_add, hp]
      rw [← Int.add_mul]
      congr 1
      omega

/-- the difference of both signs is the sum -/
theorem signT_dmk {f : Int} {l : List (Int × Int)} (hf : -65536 ≤ f) (h : ∀ t ∈ l, f ≤ t.2) : dmk ((signT false f l : Int) - signT true f l) f = dmk (scs (l.map some)) (-65536) := by
  rw [← signT_diff hf h, dmk_shift]
  congr 1
  omega
end Go.Proofs.YtolghagbpnjpgaaGreatDoor

namespace Go.Proofs.YtolghagbpnjpgaaGreatDoor
open Go Go.RowKit

/-- the parts of a dyad in memory -/
structure DP where
  bb : Bool
  nb : Bool
  ao : Option Addr
  n : Nat
  ca : Nat
  e : Int
def DP.v (p : DP) : Value := .agg #[.bool p.bb, .bool p.nb, .slice p.ao p.n p.ca, .int .i64 p.e]
def DP.cells (p : DP) : List Value := [.bool p.bb, .bool p.nb, .slice p.ao p.n p.ca, .int .i64 p.e]
def DP.zero : DP := ⟨false, false, none, 0, 0, 0⟩
/-- the cells of some dyads -/
def cells4 : List DP → List Value
  | [] => []
  | p :: l => .bool p.bb :: .bool p.nb :: .slice p.ao p.n p.ca :: .int .i64 p.e :: cells4 l

theorem cells4_len (l : List DP) : (cells4 l).length = 4 * l.length := by
  induction l with
  | nil => rfl
  | cons p l ih => simp only [cells4, List.length_cons, ih]; omega
theorem cells4_get (l : List DP) (j : Nat) (h : j < l.length) :
    (cells4 l)[4 * j]? = some (.bool (l.getD j DP.zero).bb) ∧ (cells4 l)[4 * j + 1]? = some (.bool (l.getD j DP.zero).nb) ∧
    (cells4 l)[4 * j + 2]? = some (.slice (l.getD j DP.zero).ao (l.getD j DP.zero).n (l.getD j DP.zero).ca) ∧ (cells4 l)[4 * j + 3]? = some (.int .i64 (l.getD j DP.zero).e) := by
  induction l generalizing j with
  | nil => simp at h
  | cons p l ih =>
    cases j with
    | zero => simp [cells4]
    | succ j =>
      have := ih j (by simpa using h)
      rw [show 4 * (j + 1) = 4 * j + 1 + 1 + 1 + 1 by omega]
      simpa [cells4, Nat.add_right_comm] using this

theorem cells4_set (l : List DP) (j : Nat) (p : DP) : ((((cells4 l).set (4 * j) (.bool p.bb)).set (4 * j + 1) (.bool p.nb)).set (4 * j + 2) (.slice p.ao p.n p.ca)).set (4 * j + 3) (.int .i64 p.e) = cells4 (l.set j p) := by
  induction l generalizing j with
  | nil => simp [cells4]
  | cons q l ih =>
    cases j with
    | zero => simp [cells4]
    | succ j =>
      have := ih j
      rw [show 4 * (j + 1) = 4 * j + 1 + 1 + 1 + 1 by omega]
      simp only [cells4, List.set_cons_succ, Nat.add_right_comm _ 1 3, Nat.add_right_comm _ 1 2]
      rw [← this]

/-- block g holds these dyads, and can be written -/
def DB (w : World) (g : Nat) (l : List DP) : Prop := w.heap[g]? = some (.cells (cells4 l).toArray 33 (0, 0))
section
variable {w w' : World} {g : Nat} {l : List DP}
theorem DB.lt (h : DB w g l) : g < w.heap.size := (Array.getElem?_eq_some_iff.1 h).1
theorem DB.f (h : DB w g l) (o : Nat) : w.frozen? ⟨g, o, none⟩ = false := by
  unfold DB at h; simp [World.frozen?, h]
theorem DB.kept {B : Nat} (h : DB w g l) (hb : Below B w w') (hg : g < B) : DB w' g l := by
  unfold DB; rw [hb.block g hg]; exact h
theorem DB.below (h : DB w g l) (hb : Below w.heap.size w w') : DB w' g l := h.kept hb h.lt
theorem DB.only {k : Nat} (h : DB w g l) (ho : Only k w w') (hne : g ≠ k) : DB w' g l := by
  unfold DB; rw [ho.block g hne]; exact h
theorem DB.drew (h : DB w g l) : DB w.drew g l := h
theorem DB.c (h : DB w g l) (j : Nat) (hj : j < l.length) :
    w.cell? ⟨g, 4 * j, none⟩ = some (.bool (l.getD j DP.zero).bb) ∧ w.cell? ⟨g, 4 * j + 1, none⟩ = some (.bool (l.getD j DP.zero).nb) ∧
    w.cell? ⟨g, 4 * j + 2, none⟩ = some (.slice (l.getD j DP.zero).ao (l.getD j DP.zero).n (l.getD j DP.zero).ca) ∧ w.cell? ⟨g, 4 * j + 3, none⟩ = some (.int .i64 (l.getD j DP.zero).e) := by
  obtain ⟨h0, h1, h2, h3⟩ := cells4_get l j hj
  rw [cell_of_row w g _ _ _ _ h, cell_of_row w g _ _ _ _ h, cell_of_row w g _ _ _ _ h, cell_of_row w g _ _ _ _ h]
  simp only [List.getElem?_toArray]
  exact ⟨h0, h1, h2, h3⟩
end
/-- four cells of block g set -/
def set4 (w : World) (g o : Nat) (p : DP) : World := (((w.setCell ⟨g, o, none⟩ (.bool p.bb)).setCell ⟨g, o + 1, none⟩ (.bool p.nb)).setCell ⟨g, o + 2, none⟩ (.slice p.ao p.n p.ca)).setCell ⟨g, o + 3, none⟩ (.int .i64 p.e)
theorem only_set4' (w : World) (g o : Nat) (p : DP) : Only g w (set4 w g o p) := ((((Only.refl g w).setCell _ _).setCell _ _).setCell _ _).setCell _ _
theorem DB.set {w : World} {g : Nat} {l : List DP} (h : DB w g l) (j : Nat) (p : DP) : DB (set4 w g (4 * j) p) g (l.set j p) := by
  unfold DB at h ⊢
  unfold set4
  simp only [World.setCell, Array.getElem?_modify, if_true, h, Option.map_some]
  rw [← cells4_set]
  simp

theorem cells4_kind (l : List DP) (i : Nat) (x : Int) : (cells4 l)[i]? ≠ some (.int .u32 x) := by
  induction l generalizing i with
  | nil => simp [cells4]
  | cons p l ih =>
    match i with
    | 0 => simp [cells4]
    | 1 => simp [cells4]
    | 2 => simp [cells4]
    | 3 => simp [cells4]
    | i + 4 => simpa [cells4] using ih i
/-- limbs do not lie among dyads -/
theorem At.only_db {w w' : World} {g : Nat} {l : List DP} {ro : Option Addr} {zs : List Int} (hx : DB w g l) (h : At w ro zs) (ho : Only g w w') : At w' ro zs := by
  intro h0
  obtain ⟨b, off, e, hc⟩ := h h0
  refine ⟨b, off, e, fun j hj => ?_⟩
  have hne : b ≠ g := by
    rintro rfl
    have := hc j hj
    rw [cell_of_row w b (off + j) _ _ _ hx] at this
    simp only [List.getElem?_toArray] at this
    exact cells4_kind _ _ _ this
  rw [World.cell?_of_block (w := w) (ho.block b hne)]
  exact hc j hj
theorem Sl.only_db {w w' : World} {g k cr : Nat} {l : List DP} {ro : Option Addr} {zs : List Int} (h : Sl w ro k cr zs) (hx : DB w g l) (ho : Only g w w') : Sl w' ro k cr zs :=
  ⟨h.len, h.cap, h.big, h.wf, h.cells.only_db hx ho⟩
theorem Bn.only_db {w w' : World} {g k cr : Nat} {l : List DP} {mb : Bool} {ro : Option Addr} {x : Int} (h : Bn w mb ro k cr x) (hx : DB w g l) (ho : Only g w w') : Bn w' mb ro k cr x :=
  ⟨h.neg, h.sl.only_db hx ho⟩
theorem Dn.only_db {w w' : World} {g : Nat} {l : List DP} {v : Value} {d : Dy} (h : Dn w v d) (hx : DB w g l) (ho : Only g w w') : Dn w' v d := by
  obtain ⟨h0, nb, ao, n, ca, h1, h2⟩ := h
  exact ⟨h0, nb, ao, n, ca, h1, h2.only_db hx ho⟩

theorem Tryz.infoDyad : (Tryz.prog.info? 33).map (fun i => (i.zero, i.size, i.bytes)) = some (some (.agg #[.bool false, .bool false, .slice none 0 0, .int .i64 0]), 4, 48) := by kernel_rfl
theorem made4 (n : Nat) : (madeCells (Value.agg #[.bool false, .bool false, .slice none 0 0, .int .i64 0]).cells (n * 4)).toList = cells4 (List.replicate n DP.zero) := by
  apply List.ext_getElem?
  intro i
  by_cases hi : i < n * 4
  · obtain ⟨h0, h1, h2, h3⟩ := cells4_get (List.replicate n DP.zero) (i / 4) (by rw [List.length_replicate]; omega)
    have hg : (List.replicate n DP.zero).getD (i / 4) DP.zero = DP.zero := by simp [List.getD, show i / 4 < n by omega]
    rw [hg] at h0 h1 h2 h3
    have hl : (madeCells (Value.agg #[.bool false, .bool false, .slice none 0 0, .int .i64 0]).cells (n * 4)).toList[i]? = some (#[Value.bool false, .bool false, .slice none 0 0, .int .i64 0][i % 4]!) := by
      simp [madeCells, hi, Value.cells]
    rw [hl]
    have : i % 4 = 0 ∨ i % 4 = 1 ∨ i % 4 = 2 ∨ i % 4 = 3 := by omega
    rcases this with h | h | h | h
    · rw [show i = 4 * (i / 4) by omega, h0, show 4 * (i / 4) % 4 = 0 by omega]; rfl
    · rw [show i = 4 * (i / 4) + 1 by omega, h1, show (4 * (i / 4) + 1) % 4 = 1 by omega]; rfl
    · rw [show i = 4 * (i / 4) + 2 by omega, h2, show (4 * (i / 4) + 2) % 4 = 2 by omega]; rfl
    · rw [show i = 4 * (i / 4) + 3 by omega, h3, show (4 * (i / 4) + 3) % 4 = 3 by omega]; rfl
  · rw [List.getElem?_eq_none (by simp [size_madeCells]; omega), List.getElem?_eq_none (by rw [cells4_len, List.length_replicate]; omega)]
set_option maxRecDepth 100000 in
/-- a new array of dyads -/
theorem run_make_dyads (k n : Nat) (hk : k ≤ n) (hn : n ≤ 1000000) : ∃ O, (∀ w, (Instr.makeSlice 137 (.int .i64 (k : Int)) (.int .i64 (n : Int))).run Tryz.prog w = .ok (.slice (some ⟨w.heap.size, 0, none⟩) k n) (w.alloc O)) ∧ ∀ w : World, DB (w.alloc O) w.heap.size (List.replicate n DP.zero) := by
  obtain ⟨i0, hi, hz0, hz1, hz2⟩ := info_parts Tryz.infoDyad
  have h := fun w => run_make (P := Tryz.prog) w 137 33 i0 _ Tryz.underlying137 hi hz0 .i64 .i64 (k : Int) (n : Int) (by omega) (by omega) (by rw [hz2]; omega) (by omega)
  simp only [Int.toNat_natCast] at h
  refine ⟨_, h, fun w => ?_⟩
  unfold DB
  rw [heap_alloc_new, hz1]
  congr 2
  apply Array.ext'
  rw [made4]

theorem wpList_make_dyads (w : World) {ops : Array Oper} {rest : List Oper} {o : Oper} {a : Act} {Q : Exit → Act → World → Prop}
    (hg : o.guard = none) (l c : Operand) (hop : o.op = Op.makeSlice 137 l c) (K L : Int) (k n : Nat)
    (hl : a.eval l = .int .i64 K) (hc : a.eval c = .int .i64 L) (hK : K = (k : Int)) (hL : L = (n : Int)) (hkn : k ≤ n) (hn : n ≤ 1000000)
    (hN : ∀ w', DB w' w.heap.size (List.replicate n DP.zero) → Below w.heap.size w w' → w'.heap.size = w.heap.size + 1 → wpList Tryz.prog ops Q rest (a.put o.dst (.slice (some ⟨w.heap.size, 0, none⟩) k n)) w') :
    wpList Tryz.prog ops Q (o :: rest) a w := by
  subst hK
  subst hL
  obtain ⟨O, hrun, hnew⟩ := run_make_dyads k n hkn hn
  refine wpList_plain hg fun K hK' => ?_
  unfold Oper.wp
  simp [execOp, hop, hl, hc, hrun, Result.andThen]
  exact hK' _ _ (hN _ (hnew w) ((Below.refl _ w).alloc (Nat.le_refl _) _) (by simp))

theorem cells4_oneCell (l : List DP) : ∀ u ∈ cells4 l, u.oneCell' = true := by
  induction l with
  | nil => intro u hu; cases hu
  | cons p l ih =>
    intro u hu
    simp only [cells4, List.mem_cons] at hu
    rcases hu with rfl | rfl | rfl | rfl | hu <;> first | rfl | exact ih u hu

/-- the slice reads as the dyads D, which need not be normalized -/
structure DSl (w : World) (ao : Option Addr) (n cap : Nat) (l : List DP) (D : List Dy) : Prop where
  len : l.length = n
  lenD : D.length = n
  cap : n ≤ cap
  cells : 0 < n → ∃ b off, ao = some ⟨b, off, none⟩ ∧ ∀ j, j < n → w.cell? ⟨b, off + 4 * j, none⟩ = some (.bool (l.getD j DP.zero).bb) ∧ w.cell? ⟨b, off + 4 * j + 1, none⟩ = some (.bool (l.getD j DP.zero).nb) ∧
    w.cell? ⟨b, off + 4 * j + 2, none⟩ = some (.slice (l.getD j DP.zero).ao (l.getD j DP.zero).n (l.getD j DP.zero).ca) ∧ w.cell? ⟨b, off + 4 * j + 3, none⟩ = some (.int .i64 (l.getD j DP.zero).e)
  reads : ∀ j, j < n → Dg w (l.getD j DP.zero).v (D.getD j none)

theorem DSl.below {w w' : World} {ao : Option Addr} {n cap : Nat} {l : List DP} {D : List Dy} (h : DSl w ao n cap l D) (hb : Ext w w') : DSl w' ao n cap l D :=
  ⟨h.len, h.lenD, h.cap, fun h0 => by
    obtain ⟨b, off, e, hc⟩ := h.cells h0
    refine ⟨b, off, e, fun j hj => ?_⟩
    obtain ⟨c0, c1, c2, c3⟩ := hc j hj
    exact ⟨by rw [hb.cell (p := ⟨b, _, none⟩) (lt_of_cell c0)]; exact c0, by rw [hb.cell (p := ⟨b, _, none⟩) (lt_of_cell c1)]; exact c1, by rw [hb.cell (p := ⟨b, _, none⟩) (lt_of_cell c2)]; exact c2, by rw [hb.cell (p := ⟨b, _, none⟩) (lt_of_cell c3)]; exact c3⟩,
   fun j hj => (h.reads j hj).ext hb⟩
theorem DSl.at {w : World} {ao : Option Addr} {n cap : Nat} {l : List DP} {D : List Dy} (h : DSl w ao n cap l D) (j : Nat) (hj : j < n) : ∃ b off bb nb bo m cb e, ao = some ⟨b, off, none⟩ ∧
    w.cell? ⟨b, off + 4 * j, none⟩ = some (.bool bb) ∧ w.cell? ⟨b, off + 4 * j + 1, none⟩ = some (.bool nb) ∧ w.cell? ⟨b, off + 4 * j + 2, none⟩ = some (.slice bo m cb) ∧ w.cell? ⟨b, off + 4 * j + 3, none⟩ = some (.int .i64 e) ∧
    Dg w (.agg #[.bool bb, .bool nb, .slice bo m cb, .int .i64 e]) (D.getD j none) := by
  obtain ⟨b, off, e, hc⟩ := h.cells (by omega)
  obtain ⟨c0, c1, c2, c3⟩ := hc j hj
  exact ⟨b, off, _, _, _, _, _, _, e, c0, c1, c2, c3, h.reads j hj⟩
/-- the first k of a block of the call's own, read as a slice -/
theorem DB.sl {w : World} {g k cap : Nat} {l : List DP} {D : List Dy} (h : DB w g l) (hk : k ≤ l.length) (hD : D.length = k) (hc : k ≤ cap) (hr : ∀ j, j < k → Dg w (l.getD j DP.zero).v (D.getD j none)) : DSl w (some ⟨g, 0, none⟩) k cap (l.take k) D :=
  ⟨by rw [List.length_take]; omega, hD, hc, fun _ => ⟨g, 0, rfl, fun j hj => by
    have := h.c j (by omega)
    have e : (l.take k).getD j DP.zero = l.getD j DP.zero := by simp [List.getD, hj]
    simp only [Nat.zero_add]; rw [e]; exact this⟩, fun j hj => by
    have e : (l.take k).getD j DP.zero = l.getD j DP.zero := by simp [List.getD, hj]
    rw [e]; exact hr j hj⟩

/-- a dyad is appended where there is room -/
theorem wpList_append_dyad (w : World) {ops : Array Oper} {rest : List Oper} {o : Oper} {a : Act} {Q : Exit → Act → World → Prop}
    (hg : o.guard = none) (s x : Operand) (hop : o.op = Op.call { callee := Callee.builtin Builtin.append, args := #[s, x], argTypes := #[137, 137] })
    (g k cap c : Nat) (l : List DP) (p : DP) (hs : a.eval s = .slice (some ⟨g, 0, none⟩) k cap) (hb : DB w g l) (hl : l.length = cap) (hk : k < cap)
    (C : Nat) (hx : a.eval x = .slice (some ⟨C, 0, none⟩) 1 c) (hC : DB w C [p])
    (hN : wpList Tryz.prog ops Q rest (a.put o.dst (.slice (some ⟨g, 0, none⟩) (k + 1) cap)) (set4 w g (4 * k) p)) :
    wpList Tryz.prog ops Q (o :: rest) a w := by
  obtain ⟨i0, hi, hz0, hz1, hz2⟩ := info_parts Tryz.infoDyad
  obtain ⟨d0, d1, d2, d3⟩ := hC.c 0 (by simp)
  obtain ⟨c0, c1, c2, c3⟩ := hb.c k (by omega)
  simp only [Nat.mul_zero, Nat.zero_add] at d0 d1 d2 d3
  have hrun := run_append_room_cells (P := Tryz.prog) w 137 o.type 33 i0 Tryz.underlying137 hi g 0 k cap ⟨C, 0, none⟩ 1 c (cells4 [p]) (by rw [hz1]; rfl)
    (by
      intro j u hj
      rw [Addr.add_lit, Nat.zero_add]
      match j with
      | 0 => simp [cells4] at hj; subst hj; exact d0
      | 1 => simp [cells4] at hj; subst hj; exact d1
      | 2 => simp [cells4] at hj; subst hj; exact d2
      | 3 => simp [cells4] at hj; subst hj; exact d3
      | j + 4 => simp [cells4] at hj)
    (cells4_oneCell _) (by omega)
    (by
      intro j hj
      rw [hz1, Nat.zero_add, Nat.mul_comm k 4]
      match j, hj with
      | 0, _ => rw [Nat.add_zero, c0]; rfl
      | 1, _ => rw [c1]; rfl
      | 2, _ => rw [c2]; rfl
      | 3, _ => rw [c3]; rfl
      | j + 4, hj => exfalso; simp [cells4] at hj; omega)
    (fun j _ => hb.f _)
  rw [hz1, Nat.zero_add, Nat.mul_comm k 4] at hrun
  refine wpList_plain hg fun K hK' => ?_
  unfold Oper.wp
  simp [execOp, hop, resolve, invoke, builtin, hs, hx, hrun, Result.andThen]
  exact hK' _ _ hN
end Go.Proofs.YtolghagbpnjpgaaGreatDoor
