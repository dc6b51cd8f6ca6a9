import Derived.Test.YtapcecjbmcoliaaGreatDoorACauU24
import Derived.Test.YtapcecjbmcoliaaGreatDoorACauU26
namespace Go.Proofs.YtapcecjbmcoliaaGreatDoor
open Go.RowKit

theorem sh_wrap {y : Int} {r : Nat} (hr : r < 32) (y0 : 0 ≤ y) (y1 : y < 4294967296) : 0 ≤ y * 2 ^ r ∧ y * 2 ^ r ≤ 9223372034707292160 ∧ IntKind.u64.wrap (y * 2 ^ r) = y * 2 ^ r := by
  have hp : (0 : Int) < 2 ^ r := Int.pow_pos (by omega)
  have h1 : (2 : Int) ^ r ≤ 2147483648 := by
    have : (2 : Nat) ^ r ≤ 2 ^ 31 := Nat.pow_le_pow_right (by omega) (by omega)
    have h2 : ((2 ^ r : Nat) : Int) ≤ ((2 ^ 31 : Nat) : Int) := Int.ofNat_le.2 this
    rw [Int.natCast_pow] at h2
    exact h2
  have h0 : 0 ≤ y * 2 ^ r := Int.mul_nonneg y0 (Int.le_of_lt hp)
  have h2 : y * 2 ^ r ≤ 4294967295 * 2 ^ r := Int.mul_le_mul_of_nonneg_right (by omega) (Int.le_of_lt hp)
  refine ⟨h0, by omega, ?_⟩
  rw [IntKind.wrap_u64]
  exact Int.emod_eq_of_lt h0 (by omega)

theorem sh_step (s i : Nat) (y R N : Int) : 4294967296 ^ s * (N * R) + 4294967296 ^ (s + i) * (y * R) = 4294967296 ^ s * ((N + 4294967296 ^ i * y) * R) := by
  rw [Int.pow_add, Int.add_mul, Int.mul_add]
  simp only [Int.mul_assoc]

/-- limbs without a leading zero need their room -/
theorem sh_room {ys : List Int} {m n s r : Nat} {A : Int} (hm : ys.length = m) (hw : Wf ys) (h0 : 0 < m) (htop : ys.getD (m - 1) 0 ≠ 0) (hA : 0 ≤ A) (hfit : A + num ys * 2 ^ (s * 32 + r) < 4294967296 ^ n) : s + m ≤ n := by
  have h1 : num ys = num (ys.take (m - 1)) + 4294967296 ^ (m - 1) * ys.getD (m - 1) 0 := by
    have := num_take_succ ys (m - 1) (by omega)
    rw [show m - 1 + 1 = m by omega, List.take_of_length_le (by omega)] at this
    exact this
  have h2 := num_nonneg (hw.take (m - 1))
  have h3 := hw.getD (m - 1)
  have h4 : (4294967296 : Int) ^ (m - 1) * 1 ≤ 4294967296 ^ (m - 1) * ys.getD (m - 1) 0 := Int.mul_le_mul_of_nonneg_left (by omega) (Int.le_of_lt (pow_pos' _))
  have h5 : (4294967296 : Int) ^ (m - 1) ≤ num ys := by omega
  have hp : (0 : Int) < 2 ^ (s * 32 + r) := Int.pow_pos (by omega)
  have h6 : (4294967296 : Int) ^ (m - 1) * 2 ^ (s * 32 + r) ≤ num ys * 2 ^ (s * 32 + r) := Int.mul_le_mul_of_nonneg_right h5 (Int.le_of_lt hp)
  have h7 : (4294967296 : Int) ^ (m - 1 + s) ≤ 4294967296 ^ (m - 1) * 2 ^ (s * 32 + r) := by
    rw [Int.pow_add]
    refine Int.mul_le_mul_of_nonneg_left ?_ (Int.le_of_lt (pow_pos' _))
    have : (4294967296 : Nat) ^ s ≤ 2 ^ (s * 32 + r) := by
      rw [show (4294967296 : Nat) = 2 ^ 32 by rfl, ← Nat.pow_mul]
      exact Nat.pow_le_pow_right (by omega) (by omega)
    have h8 : ((4294967296 ^ s : Nat) : Int) ≤ ((2 ^ (s * 32 + r) : Nat) : Int) := Int.ofNat_le.2 this
    rw [Int.natCast_pow, Int.natCast_pow] at h8
    exact h8
  have h9 : (4294967296 : Int) ^ (m - 1 + s) < 4294967296 ^ n := by omega
  have h10 : ((4294967296 ^ (m - 1 + s) : Nat) : Int) < ((4294967296 ^ n : Nat) : Int) := by rw [Int.natCast_pow, Int.natCast_pow]; exact h9
  have h11 := (Nat.pow_lt_pow_iff_right (show 1 < 4294967296 by omega)).1 (Int.ofNat_lt.1 h10)
  omega

theorem sh_val (N : Int) (s r : Nat) : 4294967296 ^ s * (N * 2 ^ r) = N * 2 ^ (s * 32 + r) := by
  have : (4294967296 : Int) ^ s = 2 ^ (s * 32) := by rw [Nat.mul_comm, Int.pow_mul]; rfl
  rw [this, Int.pow_add, Int.mul_left_comm]

set_option maxRecDepth 100000 in
set_option maxHeartbeats 2000000 in
theorem addShifted_raw (g n cap m cb s r : Nat) (bo : Option Addr) (L ys : List Int) (w : World) (hL : Blk w g L) (hl : L.length = n) (hw : Wf L) (hn : n ≤ 1000000) (hcap : n ≤ cap) (hsm : s + m ≤ n) (hsn : s < n) (hr32 : r < 32)
    (hbl : ys.length = m) (hbw : Wf ys) (hst : Stay g w bo ys) (hfit : num L + 4294967296 ^ s * (num ys * 2 ^ r) < 4294967296 ^ n) :
    Calls Tryz.prog 71 #[.slice (some ⟨g, 0, none⟩) n cap, .slice bo m cb, .int .i64 ((s * 32 + r : Nat) : Int)] w fun e w' => e = .returned (.tuple #[]) ∧ ∃ L', Blk w' g L' ∧ L'.length = n ∧ Wf L' ∧ num L' = num L + 4294967296 ^ s * (num ys * 2 ^ r) ∧ Only g w w' := by
  have hd : ((s * 32 + r : Nat) : Int) / 32 = (s : Int) := by omega
  have hr : ((s * 32 + r : Nat) : Int) % 32 = (r : Int) := by omega
  obtain ⟨x, hx⟩ : ∃ x : Int, ((s * 32 + r : Nat) : Int) = x := ⟨_, rfl⟩
  rw [hx] at hd hr ⊢
  have hx0 : 0 ≤ x := by omega
  have hx1 : x ≤ 100000000000 := by omega
  have HX := Lib.hid hx; clear hx
  have HL := Lib.hid hl; clear hl
  have HB := Lib.hid hbl; clear hbl
  have HF := Lib.hid hfit; clear hfit
  go_enter Tryz.func71, Tryz.ntmps71
  go_wp2
  go_loopw [6, 7] (fun c j wr => ∃ (i : Nat) (cc : Int) (Li : List Int), s + i ≤ n ∧ j = .int .i64 i ∧ c = .int .u64 cc ∧ 0 ≤ cc ∧ cc ≤ 4294967296 ∧ Added L Li (s + i) cc (4294967296 ^ s * (num (ys.take i) * 2 ^ r)) ∧ Blk wr g Li ∧ Only g w wr)
    (fun _ j _ => n - (intOf j).toNat)
  case atStart => exact ⟨0, 0, L, by omega, rfl, rfl, by omega, by omega, ⟨rfl, hw, rfl, by simp [num]⟩, hL, Only.refl g w⟩
  case round =>
    obtain ⟨i, cc, Li, hi, rfl, rfl, hc0, hc1, hA, hbk, ho⟩ := hrel
    by_cases hlt : i < m
    · obtain ⟨bb, ob, rfl, hcb⟩ := hst _ ho (by rw [HB.out]; omega)
      have c1 := hcb i (by rw [HB.out]; omega)
      clear hcb
      have c2 := hbk.cell (s + i) (by rw [hA.1, HL.out]; omega)
      have c3 := hbk.frozen (s + i)
      rw [getD_of_drop hA.2.2.1] at c2
      have hxr := hw.getD (s + i)
      have hyr := hbw.getD i
      obtain ⟨v, hv⟩ : ∃ v, L.getD (s + i) 0 = v := ⟨_, rfl⟩
      obtain ⟨y, hy⟩ : ∃ y, ys.getD i 0 = y := ⟨_, rfl⟩
      rw [hv] at c2 hxr
      rw [hy] at c1 hyr
      have HV := Lib.hid hv; clear hv
      have HY := Lib.hid hy; clear hy
      obtain ⟨x0, x1⟩ := hxr
      obtain ⟨y0, y1⟩ := hyr
      obtain ⟨p0, p1, p2⟩ := sh_wrap hr32 y0 y1
      obtain ⟨p, hp⟩ : ∃ p, y * 2 ^ r = p := ⟨_, rfl⟩
      rw [hp] at p0 p1
      have hpw : IntKind.u64.wrap (y * 2 ^ r) = p := by rw [p2, hp]
      have HP := Lib.hid hp; clear hp p2
      have HA := Lib.hid hA; clear hA
      go_wp2
      go_roundw
      case rel =>
        have st := HA.out.step (by rw [HL.out]; omega) p (cc + p + v) (by rw [HV.out]; omega)
        rw [← HP.out, sh_step, ← HY.out, ← num_take_succ ys i (by rw [HB.out]; exact hlt), HY.out, HP.out] at st
        exact ⟨i + 1, _, _, by omega, by go_num, rfl, by omega, by omega, st, hbk.set _ _, ho.setCell _ _⟩
      case measure => simp [intOf] <;> omega
    · have ht : ys.take i = ys := List.take_of_length_le (by rw [HB.out]; omega)
      rw [ht] at hA
      by_cases hcc : 0 < cc
      · have hin : s + i < n := by have := hA.fits (by rw [HL.out]; exact hi) (by rw [HL.out]; exact HF.out) hcc; rw [HL.out] at this; exact this
        have c2 := hbk.cell (s + i) (by rw [hA.1, HL.out]; omega)
        have c3 := hbk.frozen (s + i)
        rw [getD_of_drop hA.2.2.1] at c2
        have hxr := hw.getD (s + i)
        obtain ⟨v, hv⟩ : ∃ v, L.getD (s + i) 0 = v := ⟨_, rfl⟩
        rw [hv] at c2 hxr
        have HV := Lib.hid hv; clear hv
        obtain ⟨x0, x1⟩ := hxr
        have HA := Lib.hid hA; clear hA
        have HT := Lib.hid ht; clear ht
        go_wp2
        go_roundw
        case rel =>
          have st := HA.out.step (by rw [HL.out]; omega) 0 (cc + v) (by rw [HV.out]; omega)
          rw [Int.mul_zero, Int.add_zero] at st
          refine ⟨i + 1, _, _, by omega, by go_num, rfl, by omega, by omega, ?_, hbk.set _ _, ho.setCell _ _⟩
          rw [List.take_of_length_le (by rw [HB.out]; omega)]
          exact st
        case measure => simp [intOf] <;> omega
      · obtain rfl : cc = 0 := by omega
        have HA := Lib.hid hA; clear hA
        go_wp2
        go_end0
        exact ⟨rfl, Li, hbk, by rw [HA.out.1, HL.out], HA.out.2.1, HA.out.done, ho⟩

/-- it adds m times a power of two -/
theorem addShifted_any (g n cap m cb k : Nat) (kI : Int) (bo : Option Addr) (L : List Int) (a : Nat) (w : World) (hk : (k : Int) = kI) (hL : Blk w g L) (hl : L.length = n) (hw : Wf L) (hn : n ≤ 1000000) (hcap : n ≤ cap) (ha : a ≠ 0)
    (hbl : (limbs a).length = m) (hst : Stay g w bo (limbs a)) (hfit : num L + (a : Int) * 2 ^ k < 4294967296 ^ n) :
    Calls Tryz.prog 71 #[.slice (some ⟨g, 0, none⟩) n cap, .slice bo m cb, .int .i64 kI] w fun e w' => e = .returned (.tuple #[]) ∧ ∃ L', Blk w' g L' ∧ L'.length = n ∧ Wf L' ∧ num L' = num L + (a : Int) * 2 ^ k ∧ Only g w w' := by
  subst hk
  obtain ⟨s, r, hr, rfl⟩ : ∃ s r, r < 32 ∧ k = s * 32 + r := ⟨k / 32, k % 32, by omega, by omega⟩
  have hm0 : 0 < m := by
    rcases Nat.eq_zero_or_pos m with h | h
    · exfalso; apply ha; rw [h] at hbl
      exact limbs_inj (by rw [limbs_zero]; exact List.eq_nil_of_length_eq_zero hbl)
    · exact h
  have htop : (limbs a).getD (m - 1) 0 ≠ 0 := by
    intro h0
    have h2 := tlen_eq (Wf.limbs a)
    rw [num_limbs, show ((a : Int)).toNat = a by omega, hbl] at h2
    have h3 : tlen (limbs a) m ≤ m - 1 := by
      obtain ⟨j, rfl⟩ : ∃ j, m = j + 1 := ⟨m - 1, by omega⟩
      rw [tlen, if_pos (by simpa using h0)]
      exact tlen_le _ _
    omega
  have hroom := sh_room (n := n) hbl (Wf.limbs a) hm0 htop (num_nonneg hw) (by rw [num_limbs]; exact hfit)
  have := addShifted_raw g n cap m cb s r bo L (limbs a) w hL hl hw hn hcap hroom (by omega) hr hbl (Wf.limbs a) hst (by rw [sh_val, num_limbs]; exact hfit)
  rw [sh_val, num_limbs] at this
  exact this
end Go.Proofs.YtapcecjbmcoliaaGreatDoor

namespace Go.Proofs.YtapcecjbmcoliaaGreatDoor

theorem dadd_none' (d : Dy) : dadd d none = none := by cases d <;> rfl
theorem dsub_none' (d : Dy) : dsub d none = none := dadd_none' d

theorem abs_add_lt {x y : Int} {B : Nat} (hx : x.natAbs < 2 ^ B) (hy : y.natAbs < 2 ^ B) : (x + y).natAbs < 2 ^ (B + 1) := by
  have h3 := Int.natAbs_add_le x y
  rw [Nat.pow_succ]
  omega
theorem abs_mul_lt {x y : Int} {B C : Nat} (hx : x.natAbs < 2 ^ B) (hy : y.natAbs < 2 ^ C) : (x * y).natAbs < 2 ^ (B + C) := by
  rw [Int.natAbs_mul, Nat.pow_add]
  by_cases h0 : y.natAbs = 0
  · rw [h0, Nat.mul_zero]; exact Nat.mul_pos (Nat.pow_pos (by omega)) (Nat.pow_pos (by omega))
  · exact Nat.mul_lt_mul_of_lt_of_le hx (Nat.le_of_lt hy) (Nat.pow_pos (by omega))

theorem lt_up {x B : Nat} (h : x < 2 ^ B) : x < 2 ^ (B + 1) := Nat.lt_trans h (Nat.pow_lt_pow_right (by omega) (by omega))

section
variable {a b c : Dy}
end

end Go.Proofs.YtapcecjbmcoliaaGreatDoor

namespace Go.Proofs.YtapcecjbmcoliaaGreatDoor

/-- the sum of all, in units of 2^-65536 -/
def scs : List Dy → Int
  | [] => 0
  | d :: l => sc d + scs l

/-- the sum of all; none if one of them is none -/
def dtotal (l : List Dy) : Dy := if none ∈ l then none else dmk (scs l) (-65536)

/-- the terms that are not zero -/
def keptT : List Dy → List (Int × Int)
  | [] => []
  | some (m, e) :: l => if m = 0 then keptT l else (m, e) :: keptT l
  | none :: l => keptT l

theorem keptT_append (a b : List Dy) : keptT (a ++ b) = keptT a ++ keptT b := by
  induction a with
  | nil => simp [keptT]
  | cons d l ih =>
    match d with
    | none => simpa [keptT] using ih
    | some (m, e) =>
      simp only [List.cons_append, keptT, ih]
      split <;> simp

theorem keptT_len (l : List Dy) : (keptT l).length ≤ l.length := by
  induction l with
  | nil => simp [keptT]
  | cons d l ih =>
    match d with
    | none => simp only [keptT, List.length_cons]; omega
    | some (m, e) =>
      simp only [keptT]
      split <;> simp only [List.length_cons] <;> omega

theorem scs_kept {l : List Dy} (h : none ∉ l) : scs ((keptT l).map some) = scs l := by
  induction l with
  | nil => rfl
  | cons d l ih =>
    have hl : none ∉ l := fun hm => h (List.mem_cons_of_mem _ hm)
    match d with
    | none => exact absurd List.mem_cons_self h
    | some (m, e) =>
      simp only [keptT]
      split
      · rename_i h0
        subst h0
        simp only [scs, ih hl, sc_some, Int.zero_mul, Int.zero_add]
      · simp only [List.map_cons, scs, ih hl]

/-- an odd number within the limits -/
def TermOk (t : Int × Int) : Prop := t.1.natAbs % 2 = 1 ∧ -65536 ≤ t.2 ∧ t.2 + blen t.1.natAbs ≤ 65536

theorem keptT_ok {l : List Dy} (h : ∀ d ∈ l, Nd d) : ∀ t ∈ keptT l, TermOk t := by
  induction l with
  | nil => intro t ht; cases ht
  | cons d l ih =>
    have hl := ih fun d hd => h d (List.mem_cons_of_mem _ hd)
    match d with
    | none => exact hl
    | some (m, e) =>
      simp only [keptT]
      split
      · exact hl
      · rename_i h0
        intro t ht
        rcases List.mem_cons.1 ht with rfl | ht
        · rcases h _ List.mem_cons_self with ⟨h1, _⟩ | h1
          · exact absurd h1 h0
          · exact h1
        · exact hl t ht

def lowT (l : List (Int × Int)) : Int := l.foldl (fun a t => min a t.2) 65536
def highT (l : List (Int × Int)) : Int := l.foldl (fun a t => max a (t.2 + (blen t.1.natAbs : Int))) (-65536)
theorem lowT_next {l : List (Int × Int)} {j : Nat} (h : j < l.length) : lowT (l.take (j + 1)) = min (lowT (l.take j)) (l.getD j (0, 0)).2 := by
  unfold lowT
  rw [List.take_succ_eq_append_getElem h, List.foldl_append]
  simp [List.getD, h]
theorem highT_next {l : List (Int × Int)} {j : Nat} (h : j < l.length) : highT (l.take (j + 1)) = max (highT (l.take j)) ((l.getD j (0, 0)).2 + (blen (l.getD j (0, 0)).1.natAbs : Int)) := by
  unfold highT
  rw [List.take_succ_eq_append_getElem h, List.foldl_append]
  simp [List.getD, h]
theorem lowT_facts {l : List (Int × Int)} (h : ∀ t ∈ l, TermOk t) : -65536 ≤ lowT l ∧ lowT l ≤ 65536 ∧ ∀ t ∈ l, lowT l ≤ t.2 := by
  have : ∀ (l : List (Int × Int)) (a : Int), -65536 ≤ a → (∀ t ∈ l, TermOk t) → -65536 ≤ l.foldl (fun a t => min a t.2) a ∧ l.foldl (fun a t => min a t.2) a ≤ a ∧ ∀ t ∈ l, l.foldl (fun a t => min a t.2) a ≤ t.2 := by
    intro l
    induction l with
    | nil => intro a ha _; exact ⟨ha, Int.le_refl _, fun t ht => by cases ht⟩
    | cons x l ih =>
      intro a ha h
      have hx := (h x List.mem_cons_self).2.1
      obtain ⟨h1, h2, h3⟩ := ih (min a x.2) (by omega) fun t ht => h t (List.mem_cons_of_mem _ ht)
      refine ⟨h1, ?_, ?_⟩
      · show l.foldl _ (min a x.2) ≤ a
        omega
      · intro t ht
        show l.foldl _ (min a x.2) ≤ _
        rcases List.mem_cons.1 ht with rfl | ht
        · omega
        · exact h3 t ht
  exact this l 65536 (by omega) h
theorem highT_facts {l : List (Int × Int)} (h : ∀ t ∈ l, TermOk t) : -65536 ≤ highT l ∧ highT l ≤ 65536 ∧ ∀ t ∈ l, t.2 + (blen t.1.natAbs : Int) ≤ highT l := by
  have : ∀ (l : List (Int × Int)) (a : Int), a ≤ 65536 → (∀ t ∈ l, TermOk t) → l.foldl (fun a t => max a (t.2 + (blen t.1.natAbs : Int))) a ≤ 65536 ∧ a ≤ l.foldl (fun a t => max a (t.2 + (blen t.1.natAbs : Int))) a ∧ ∀ t ∈ l, t.2 + (blen t.1.natAbs : Int) ≤ l.foldl (fun a t => max a (t.2 + (blen t.1.natAbs : Int))) a := by
    intro l
    induction l with
    | nil => intro a ha _; exact ⟨ha, Int.le_refl _, fun t ht => by cases ht⟩
    | cons x l ih =>
      intro a ha h
      have hx := (h x List.mem_cons_self).2.2
      obtain ⟨h1, h2, h3⟩ := ih (max a (x.2 + (blen x.1.natAbs : Int))) (by omega) fun t ht => h t (List.mem_cons_of_mem _ ht)
      refine ⟨h1, ?_, ?_⟩
      · show a ≤ l.foldl _ (max a (x.2 + (blen x.1.natAbs : Int)))
        omega
      · intro t ht
        show _ ≤ l.foldl _ (max a (x.2 + (blen x.1.natAbs : Int)))
        rcases List.mem_cons.1 ht with rfl | ht
        · omega
        · exact h3 t ht
  obtain ⟨h1, h2, h3⟩ := this l (-65536) (by omega) h
  exact ⟨h2, h1, h3⟩

/-- the terms of one sign (s: the negative ones), in units of 2^f -/
def signT (s : Bool) (f : Int) : List (Int × Int) → Nat
  | [] => 0
  | t :: l => (if decide (t.1 < 0) = s then t.1.natAbs * 2 ^ (t.2 - f).toNat else 0) + signT s f l

theorem signT_append (s : Bool) (f : Int) (a b : List (Int × Int)) : signT s f (a ++ b) = signT s f a + signT s f b := by
  induction a with
  | nil => simp [signT]
  | cons d l ih => simp only [List.cons_append, signT, ih]; omega

theorem signT_next (s : Bool) (f : Int) {l : List (Int × Int)} {j : Nat} (h : j < l.length) :
    signT s f (l.take (j + 1)) = signT s f (l.take j) + if decide ((l.getD j (0, 0)).1 < 0) = s then (l.getD j (0, 0)).1.natAbs * 2 ^ ((l.getD j (0, 0)).2 - f).toNat else 0 := by
  rw [List.take_succ_eq_append_getElem h, signT_append]
  simp [signT, List.getD, h]

theorem signT_le {s : Bool} {f : Int} {W : Nat} {l : List (Int × Int)} (h : ∀ t ∈ l, f ≤ t.2 ∧ t.2 + (blen t.1.natAbs : Int) ≤ f + W) : signT s f l ≤ l.length * 2 ^ W := by
  induction l with
  | nil => simp [signT]
  | cons t l ih =>
    have hl := ih fun t ht => h t (List.mem_cons_of_mem _ ht)
    have ht := h t List.mem_cons_self
    have h1 : t.1.natAbs * 2 ^ (t.2 - f).toNat ≤ 2 ^ W := by
      have h2 := Nat.le_of_lt (blen_lt t.1.natAbs)
      have h3 := Nat.mul_le_mul_right (2 ^ (t.2 - f).toNat) h2
      rw [← Nat.pow_add] at h3
      exact Nat.le_trans h3 (Nat.pow_le_pow_right (by omega) (by omega))
    simp only [signT, List.length_cons, Nat.add_mul, Nat.one_mul]
    split <;> omega

/-- all of them fit into the limbs -/
theorem signT_fits {s : Bool} {f : Int} {W k b n : Nat} {l : List (Int × Int)} (h : ∀ t ∈ l, f ≤ t.2 ∧ t.2 + (blen t.1.natAbs : Int) ≤ f + W) (hk : l.length = k) (hb : k < 2 ^ b) (hn : W + b < 32 * n) : signT s f l < 4294967296 ^ n := by
  have h1 := signT_le (s := s) h
  rw [hk] at h1
  have h2 : k * 2 ^ W < 2 ^ b * 2 ^ W := Nat.mul_lt_mul_of_pos_right hb (Nat.pow_pos (by omega))
  rw [← Nat.pow_add] at h2
  have h3 : 2 ^ (b + W) ≤ 4294967296 ^ n := pow_limbs (by omega)
  omega

theorem signT_take_le (s : Bool) (f : Int) (l : List (Int × Int)) (j : Nat) : signT s f (l.take j) ≤ signT s f l := by
  conv => rhs; rw [← List.take_append_drop j l, signT_append]
  omega

theorem signT_diff {f : Int} {l : List (Int × Int)} (hf : -65536 ≤ f) (h : ∀ t ∈ l, f ≤ t.2) : ((signT false f l : Int) - signT true f l) * 2 ^ (f + 65536).toNat = scs (l.map some) := by
  induction l with
  | nil => simp [signT, scs]
  | cons t l ih =>
    have hl := ih fun t ht => h t (List.mem_cons_of_mem _ ht)
    have ht := h t List.mem_cons_self
    obtain ⟨m, e⟩ := t
    simp only at ht
    simp only [List.map_cons, scs, ← hl, signT]
    rw [sc_shift hf ht]
    have hp : ((m.natAbs * 2 ^ (e - f).toNat : Nat) : Int) = (m * 2 ^ (e - f).toNat).natAbs := by rw [natAbs_shift]
    have hp0 := two_pos (e - f).toNat
    by_cases hm : m < 0
    · have hneg : m * 2 ^ (e - f).toNat < 0 := Int.mul_neg_of_neg_of_pos hm hp0
      rw [if_neg (by simp [hm]), if_pos (by simp [hm])]
      simp only [Nat.zero_add, Int.natCast_add, hp]
      rw [← Int.add_mul]
      congr 1
      omega
    · have hpos : 0 ≤ m * 2 ^ (e - f).toNat := Int.mul_nonneg (by omega) (by omega)
      rw [if_pos (by simp [hm]), if_neg (by simp [hm])]
      simp only [Nat.zero_add, Int.natCast_add, hp]
      rw [← Int.add_mul]
      congr 1
      omega

/-- the difference of both signs is the sum -/
theorem signT_dmk {f : Int} {l : List (Int × Int)} (hf : -65536 ≤ f) (h : ∀ t ∈ l, f ≤ t.2) : dmk ((signT false f l : Int) - signT true f l) f = dmk (scs (l.map some)) (-65536) := by
  rw [← signT_diff hf h, dmk_shift]
  congr 1
  omega
end Go.Proofs.YtapcecjbmcoliaaGreatDoor
