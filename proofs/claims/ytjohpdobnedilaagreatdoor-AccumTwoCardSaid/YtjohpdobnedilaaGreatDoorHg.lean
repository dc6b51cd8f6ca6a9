/- Plain facts on sums of many dyads. No program stands here. -/
import Derived.Test.YtjohpdobnedilaaGreatDoorGp
import Derived.Test.YtjohpdobnedilaaGreatDoorGk
import Derived.Test.YtjohpdobnedilaaGreatDoorGc
namespace Go.Proofs.YtjohpdobnedilaaGreatDoor

/-- the sum of all, in units of 2^-65536 -/
def scs : List Dy → Int
  | [] => 0
  | d :: l => sc d + scs l

/-- the sum of all; none if one of them is none -/
def dtotal (l : List Dy) : Dy := if none ∈ l then none else dmk (scs l) (-65536)

theorem dtotal_nd (l : List Dy) : Nd (dtotal l) := by
  unfold dtotal
  split
  · trivial
  · exact dmk_nd _ _

theorem scs_append (a b : List Dy) : scs (a ++ b) = scs a + scs b := by
  induction a with
  | nil => simp [scs]
  | cons d l ih => simp only [List.cons_append, scs, ih]; omega

/-- the terms that are not zero -/
def keptT : List Dy → List (Int × Int)
  | [] => []
  | some (m, e) :: l => if m = 0 then keptT l else (m, e) :: keptT l
  | none :: l => keptT l

theorem keptT_append (a b : List Dy) : keptT (a ++ b) = keptT a ++ keptT b := by
  induction a with
  | nil => simp [keptT]
  | cons d l ih =>
    match d with
    | none => simpa [keptT] using ih
    | some (m, e) =>
      simp only [List.cons_append, keptT, ih]
      split <;> simp

theorem keptT_len (l : List Dy) : (keptT l).length ≤ l.length := by
  induction l with
  | nil => simp [keptT]
  | cons d l ih =>
    match d with
    | none => simp only [keptT, List.length_cons]; omega
    | some (m, e) =>
      simp only [keptT]
      split <;> simp only [List.length_cons] <;> omega

theorem scs_kept {l : List Dy} (h : none ∉ l) : scs ((keptT l).map some) = scs l := by
  induction l with
  | nil => rfl
  | cons d l ih =>
    have hl : none ∉ l := fun hm => h (List.mem_cons_of_mem _ hm)
    match d with
    | none => exact absurd List.mem_cons_self h
    | some (m, e) =>
      simp only [keptT]
      split
      · rename_i h0
        subst h0
        simp only [scs, ih hl, sc_some, Int.zero_mul, Int.zero_add]
      · simp only [List.map_cons, scs, ih hl]

/-- an odd number within the limits -/
def TermOk (t : Int × Int) : Prop := t.1.natAbs % 2 = 1 ∧ -65536 ≤ t.2 ∧ t.2 + blen t.1.natAbs ≤ 65536

theorem keptT_ok {l : List Dy} (h : ∀ d ∈ l, Nd d) : ∀ t ∈ keptT l, TermOk t := by
  induction l with
  | nil => intro t ht; cases ht
  | cons d l ih =>
    have hl := ih fun d hd => h d (List.mem_cons_of_mem _ hd)
    match d with
    | none => exact hl
    | some (m, e) =>
      simp only [keptT]
      split
      · exact hl
      · rename_i h0
        intro t ht
        rcases List.mem_cons.1 ht with rfl | ht
        · rcases h _ List.mem_cons_self with ⟨h1, _⟩ | h1
          · exact absurd h1 h0
          · exact h1
        · exact hl t ht

def lowT (l : List (Int × Int)) : Int := l.foldl (fun a t => min a t.2) 65536
def highT (l : List (Int × Int)) : Int := l.foldl (fun a t => max a (t.2 + (blen t.1.natAbs : Int))) (-65536)
theorem lowT_next {l : List (Int × Int)} {j : Nat} (h : j < l.length) : lowT (l.take (j + 1)) = min (lowT (l.take j)) (l.getD j (0, 0)).2 := by
  unfold lowT
  rw [List.take_succ_eq_append_getElem h, List.foldl_append]
  simp [List.getD, h]
theorem highT_next {l : List (Int × Int)} {j : Nat} (h : j < l.length) : highT (l.take (j + 1)) = max (highT (l.take j)) ((l.getD j (0, 0)).2 + (blen (l.getD j (0, 0)).1.natAbs : Int)) := by
  unfold highT
  rw [List.take_succ_eq_append_getElem h, List.foldl_append]
  simp [List.getD, h]
theorem lowT_facts {l : List (Int × Int)} (h : ∀ t ∈ l, TermOk t) : -65536 ≤ lowT l ∧ lowT l ≤ 65536 ∧ ∀ t ∈ l, lowT l ≤ t.2 := by
  have : ∀ (l : List (Int × Int)) (a : Int), -65536 ≤ a → (∀ t ∈ l, TermOk t) → -65536 ≤ l.foldl (fun a t => min a t.2) a ∧ l.foldl (fun a t => min a t.2) a ≤ a ∧ ∀ t ∈ l, l.foldl (fun a t => min a t.2) a ≤ t.2 := by
    intro l
    induction l with
    | nil => intro a ha _; exact ⟨ha, Int.le_refl _, fun t ht => by cases ht⟩
    | cons x l ih =>
      intro a ha h
      have hx := (h x List.mem_cons_self).2.1
      obtain ⟨h1, h2, h3⟩ := ih (min a x.2) (by omega) fun t ht => h t (List.mem_cons_of_mem _ ht)
      refine ⟨h1, ?_, ?_⟩
      · show l.foldl _ (min a x.2) ≤ a
        omega
      · intro t ht
        show l.foldl _ (min a x.2) ≤ _
        rcases List.mem_cons.1 ht with rfl | ht
        · omega
        · exact h3 t ht
  exact this l 65536 (by omega) h
theorem highT_facts {l : List (Int × Int)} (h : ∀ t ∈ l, TermOk t) : -65536 ≤ highT l ∧ highT l ≤ 65536 ∧ ∀ t ∈ l, t.2 + (blen t.1.natAbs : Int) ≤ highT l := by
  have : ∀ (l : List (Int × Int)) (a : Int), a ≤ 65536 → (∀ t ∈ l, TermOk t) → l.foldl (fun a t => max a (t.2 + (blen t.1.natAbs : Int))) a ≤ 65536 ∧ a ≤ l.foldl (fun a t => max a (t.2 + (blen t.1.natAbs : Int))) a ∧ ∀ t ∈ l, t.2 + (blen t.1.natAbs : Int) ≤ l.foldl (fun a t => max a (t.2 + (blen t.1.natAbs : Int))) a := by
    intro l
    induction l with
    | nil => intro a ha _; exact ⟨ha, Int.le_refl _, fun t ht => by cases ht⟩
    | cons x l ih =>
      intro a ha h
      have hx := (h x List.mem_cons_self).2.2
      obtain ⟨h1, h2, h3⟩ := ih (max a (x.2 + (blen x.1.natAbs : Int))) (by omega) fun t ht => h t (List.mem_cons_of_mem _ ht)
      refine ⟨h1, ?_, ?_⟩
      · show a ≤ l.foldl _ (max a (x.2 + (blen x.1.natAbs : Int)))
        omega
      · intro t ht
        show _ ≤ l.foldl _ (max a (x.2 + (blen x.1.natAbs : Int)))
        rcases List.mem_cons.1 ht with rfl | ht
        · omega
        · exact h3 t ht
  obtain ⟨h1, h2, h3⟩ := this l (-65536) (by omega) h
  exact ⟨h2, h1, h3⟩

/-- the terms of one sign (s: the negative ones), in units of 2^f -/
def signT (s : Bool) (f : Int) : List (Int × Int) → Nat
  | [] => 0
  | t :: l => (if decide (t.1 < 0) = s then t.1.natAbs * 2 ^ (t.2 - f).toNat else 0) + signT s f l

theorem signT_append (s : Bool) (f : Int) (a b : List (Int × Int)) : signT s f (a ++ b) = signT s f a + signT s f b := by
  induction a with
  | nil => simp [signT]
  | cons d l ih => simp only [List.cons_append, signT, ih]; omega

theorem signT_next (s : Bool) (f : Int) {l : List (Int × Int)} {j : Nat} (h : j < l.length) :
    signT s f (l.take (j + 1)) = signT s f (l.take j) + if decide ((l.getD j (0, 0)).1 < 0) = s then (l.getD j (0, 0)).1.natAbs * 2 ^ ((l.getD j (0, 0)).2 - f).toNat else 0 := by
  rw [List.take_succ_eq_append_getElem h, signT_append]
  simp [signT, List.getD, h]

theorem signT_le {s : Bool} {f : Int} {W : Nat} {l : List (Int × Int)} (h : ∀ t ∈ l, f ≤ t.2 ∧ t.2 + (blen t.1.natAbs : Int) ≤ f + W) : signT s f l ≤ l.length * 2 ^ W := by
  induction l with
  | nil => simp [signT]
  | cons t l ih =>
    have hl := ih fun t ht => h t (List.mem_cons_of_mem _ ht)
    have ht := h t List.mem_cons_self
    have h1 : t.1.natAbs * 2 ^ (t.2 - f).toNat ≤ 2 ^ W := by
      have h2 := Nat.le_of_lt (blen_lt t.1.natAbs)
      have h3 := Nat.mul_le_mul_right (2 ^ (t.2 - f).toNat) h2
      rw [← Nat.pow_add] at h3
      exact Nat.le_trans h3 (Nat.pow_le_pow_right (by omega) (by omega))
    simp only [signT, List.length_cons, Nat.add_mul, Nat.one_mul]
    split <;> omega

/-- all of them fit into the limbs -/
theorem signT_fits {s : Bool} {f : Int} {W k b n : Nat} {l : List (Int × Int)} (h : ∀ t ∈ l, f ≤ t.2 ∧ t.2 + (blen t.1.natAbs : Int) ≤ f + W) (hk : l.length = k) (hb : k < 2 ^ b) (hn : W + b < 32 * n) : signT s f l < 4294967296 ^ n := by
  have h1 := signT_le (s := s) h
  rw [hk] at h1
  have h2 : k * 2 ^ W < 2 ^ b * 2 ^ W := Nat.mul_lt_mul_of_pos_right hb (Nat.pow_pos (by omega))
  rw [← Nat.pow_add] at h2
  have h3 : 2 ^ (b + W) ≤ 4294967296 ^ n := pow_limbs (by omega)
  omega

theorem signT_take_le (s : Bool) (f : Int) (l : List (Int × Int)) (j : Nat) : signT s f (l.take j) ≤ signT s f l := by
  conv => rhs; rw [← List.take_append_drop j l, signT_append]
  omega

theorem signT_diff {f : Int} {l : List (Int × Int)} (hf : -65536 ≤ f) (h : ∀ t ∈ l, f ≤ t.2) : ((signT false f l : Int) - signT true f l) * 2 ^ (f + 65536).toNat = scs (l.map some) := by
  induction l with
  | nil => simp [signT, scs]
  | cons t l ih =>
    have hl := ih fun t ht => h t (List.mem_cons_of_mem _ ht)
    have ht := h t List.mem_cons_self
    obtain ⟨m, e⟩ := t
    simp only at ht
    simp only [List.map_cons, scs, ← hl, signT]
    rw [sc_shift hf ht]
    have hp : ((m.natAbs * 2 ^ (e - f).toNat : Nat) : Int) = (m * 2 ^ (e - f).toNat).natAbs := by rw [natAbs_shift]
    have hp0 := two_pos (e - f).toNat
    by_cases hm : m < 0
    · have hneg : m * 2 ^ (e - f).toNat < 0 := Int.mul_neg_of_neg_of_pos hm hp0
      rw [if_neg (by simp [hm]), if_pos (by simp [hm])]
      simp only [Nat.zero_add, Int.natCast_add, hp]
      rw [← Int.add_mul]
      congr 1
      omega
    · have hpos : 0 ≤ m * 2 ^ (e - f).toNat := Int.mul_nonneg (by omega) (by omega)
      rw [if_pos (by simp [hm]), if_neg (by simp [hm])]
      simp only [Nat.zero_add, Int.natCast_add, hp]
      rw [← Int.add_mul]
      congr 1
      omega

/-- the difference of both signs is the sum -/
theorem signT_dmk {f : Int} {l : List (Int × Int)} (hf : -65536 ≤ f) (h : ∀ t ∈ l, f ≤ t.2) : dmk ((signT false f l : Int) - signT true f l) f = dmk (scs (l.map some)) (-65536) := by
  rw [← signT_diff hf h, dmk_shift]
  congr 1
  omega
end Go.Proofs.YtjohpdobnedilaaGreatDoor

/- The sum of dyads that are integers of one unit. No program stands here. -/
namespace Go.Proofs.YtjohpdobnedilaaGreatDoor

/-- these dyads have the sum N in units of 2^-S -/
inductive IsL (S : Nat) : List Dy → Int → Prop
  | nil : IsL S [] 0
  | cons {d : Dy} {l : List Dy} {N M : Int} (h : Is d S N) (t : IsL S l M) : IsL S (d :: l) (N + M)

theorem IsL.some {S : Nat} {l : List Dy} {N : Int} (h : IsL S l N) : none ∉ l := by
  induction h with
  | nil => simp
  | cons h _ ih =>
    intro hm
    rcases List.mem_cons.1 hm with e | hm
    · obtain ⟨m, x, h1, _⟩ := h
      rw [← e] at h1; cases h1
    · exact ih hm

theorem IsL.scs {S : Nat} {l : List Dy} {N : Int} (h : IsL S l N) (hS : S ≤ 65536) : scs l = N * 2 ^ (65536 - S) := by
  induction h with
  | nil => simp [Go.Proofs.YtjohpdobnedilaaGreatDoor.scs]
  | cons h _ ih => simp only [Go.Proofs.YtjohpdobnedilaaGreatDoor.scs, ih, sc_is h hS, Int.add_mul]

theorem dtotal_is {S B : Nat} {l : List Dy} {N : Int} (h : IsL S l N) (hS : S ≤ 65536) (hN : N.natAbs < 2 ^ B) (hB : B ≤ 65536) : Is (dtotal l) S N := by
  unfold dtotal
  rw [if_neg h.some, h.scs hS, dmk_shift, show (-65536 : Int) + ((65536 - S : Nat) : Int) = -(S : Int) by omega]
  exact Is.of_dmk hS hN hB

end Go.Proofs.YtjohpdobnedilaaGreatDoor

/- What dyad.addShifted does: it adds a shifted number to limbs in place. -/
namespace Go.Proofs.YtjohpdobnedilaaGreatDoor
open Go.RowKit

theorem sh_wrap {y : Int} {r : Nat} (hr : r < 32) (y0 : 0 ≤ y) (y1 : y < 4294967296) : 0 ≤ y * 2 ^ r ∧ y * 2 ^ r ≤ 9223372034707292160 ∧ IntKind.u64.wrap (y * 2 ^ r) = y * 2 ^ r := by
  have hp : (0 : Int) < 2 ^ r := Int.pow_pos (by omega)
  have h1 : (2 : Int) ^ r ≤ 2147483648 := by
    have : (2 : Nat) ^ r ≤ 2 ^ 31 := Nat.pow_le_pow_right (by omega) (by omega)
    have h2 : ((2 ^ r : Nat) : Int) ≤ ((2 ^ 31 : Nat) : Int) := Int.ofNat_le.2 this
    rw [Int.natCast_pow] at h2
    exact h2
  have h0 : 0 ≤ y * 2 ^ r := Int.mul_nonneg y0 (Int.le_of_lt hp)
  have h2 : y * 2 ^ r ≤ 4294967295 * 2 ^ r := Int.mul_le_mul_of_nonneg_right (by omega) (Int.le_of_lt hp)
  refine ⟨h0, by omega, ?_⟩
  rw [IntKind.wrap_u64]
  exact Int.emod_eq_of_lt h0 (by omega)

theorem sh_step (s i : Nat) (y R N : Int) : 4294967296 ^ s * (N * R) + 4294967296 ^ (s + i) * (y * R) = 4294967296 ^ s * ((N + 4294967296 ^ i * y) * R) := by
  rw [Int.pow_add, Int.add_mul, Int.mul_add]
  simp only [Int.mul_assoc]

/-- limbs without a leading zero need their room -/
theorem sh_room {ys : List Int} {m n s r : Nat} {A : Int} (hm : ys.length = m) (hw : Wf ys) (h0 : 0 < m) (htop : ys.getD (m - 1) 0 ≠ 0) (hA : 0 ≤ A) (hfit : A + num ys * 2 ^ (s * 32 + r) < 4294967296 ^ n) : s + m ≤ n := by
  have h1 : num ys = num (ys.take (m - 1)) + 4294967296 ^ (m - 1) * ys.getD (m - 1) 0 := by
    have := num_take_succ ys (m - 1) (by omega)
    rw [show m - 1 + 1 = m by omega, List.take_of_length_le (by omega)] at this
    exact this
  have h2 := num_nonneg (hw.take (m - 1))
  have h3 := hw.getD (m - 1)
  have h4 : (4294967296 : Int) ^ (m - 1) * 1 ≤ 4294967296 ^ (m - 1) * ys.getD (m - 1) 0 := Int.mul_le_mul_of_nonneg_left (by omega) (Int.le_of_lt (pow_pos' _))
  have h5 : (4294967296 : Int) ^ (m - 1) ≤ num ys := by omega
  have hp : (0 : Int) < 2 ^ (s * 32 + r) := Int.pow_pos (by omega)
  have h6 : (4294967296 : Int) ^ (m - 1) * 2 ^ (s * 32 + r) ≤ num ys * 2 ^ (s * 32 + r) := Int.mul_le_mul_of_nonneg_right h5 (Int.le_of_lt hp)
  have h7 : (4294967296 : Int) ^ (m - 1 + s) ≤ 4294967296 ^ (m - 1) * 2 ^ (s * 32 + r) := by
    rw [Int.pow_add]
    refine Int.mul_le_mul_of_nonneg_left ?_ (Int.le_of_lt (pow_pos' _))
    have : (4294967296 : Nat) ^ s ≤ 2 ^ (s * 32 + r) := by
      rw [show (4294967296 : Nat) = 2 ^ 32 by rfl, ← Nat.pow_mul]
      exact Nat.pow_le_pow_right (by omega) (by omega)
    have h8 : ((4294967296 ^ s : Nat) : Int) ≤ ((2 ^ (s * 32 + r) : Nat) : Int) := Int.ofNat_le.2 this
    rw [Int.natCast_pow, Int.natCast_pow] at h8
    exact h8
  have h9 : (4294967296 : Int) ^ (m - 1 + s) < 4294967296 ^ n := by omega
  have h10 : ((4294967296 ^ (m - 1 + s) : Nat) : Int) < ((4294967296 ^ n : Nat) : Int) := by rw [Int.natCast_pow, Int.natCast_pow]; exact h9
  have h11 := (Nat.pow_lt_pow_iff_right (show 1 < 4294967296 by omega)).1 (Int.ofNat_lt.1 h10)
  omega

theorem sh_val (N : Int) (s r : Nat) : 4294967296 ^ s * (N * 2 ^ r) = N * 2 ^ (s * 32 + r) := by
  have : (4294967296 : Int) ^ s = 2 ^ (s * 32) := by rw [Nat.mul_comm, Int.pow_mul]; rfl
  rw [this, Int.pow_add, Int.mul_left_comm]

set_option maxRecDepth 100000 in
set_option maxHeartbeats 2000000 in
theorem addShifted_raw (g n cap m cb s r : Nat) (bo : Option Addr) (L ys : List Int) (w : World) (hL : Blk w g L) (hl : L.length = n) (hw : Wf L) (hn : n ≤ 1000000) (hcap : n ≤ cap) (hsm : s + m ≤ n) (hsn : s < n) (hr32 : r < 32)
    (hbl : ys.length = m) (hbw : Wf ys) (hst : Stay g w bo ys) (hfit : num L + 4294967296 ^ s * (num ys * 2 ^ r) < 4294967296 ^ n) :
    Calls Tryz.prog 219 #[.slice (some ⟨g, 0, none⟩) n cap, .slice bo m cb, .int .i64 ((s * 32 + r : Nat) : Int)] w fun e w' => e = .returned (.tuple #[]) ∧ ∃ L', Blk w' g L' ∧ L'.length = n ∧ Wf L' ∧ num L' = num L + 4294967296 ^ s * (num ys * 2 ^ r) ∧ Only g w w' := by
  have hd : ((s * 32 + r : Nat) : Int) / 32 = (s : Int) := by omega
  have hr : ((s * 32 + r : Nat) : Int) % 32 = (r : Int) := by omega
  obtain ⟨x, hx⟩ : ∃ x : Int, ((s * 32 + r : Nat) : Int) = x := ⟨_, rfl⟩
  rw [hx] at hd hr ⊢
  have hx0 : 0 ≤ x := by omega
  have hx1 : x ≤ 100000000000 := by omega
  have HX := Lib.hid hx; clear hx
  have HL := Lib.hid hl; clear hl
  have HB := Lib.hid hbl; clear hbl
  have HF := Lib.hid hfit; clear hfit
  go_enter Tryz.func219, Tryz.ntmps219
  go_wp2
  go_loopw [6, 7] (fun c j wr => ∃ (i : Nat) (cc : Int) (Li : List Int), s + i ≤ n ∧ j = .int .i64 i ∧ c = .int .u64 cc ∧ 0 ≤ cc ∧ cc ≤ 4294967296 ∧ Added L Li (s + i) cc (4294967296 ^ s * (num (ys.take i) * 2 ^ r)) ∧ Blk wr g Li ∧ Only g w wr)
    (fun _ j _ => n - (intOf j).toNat)
  case atStart => exact ⟨0, 0, L, by omega, rfl, rfl, by omega, by omega, ⟨rfl, hw, rfl, by simp [num]⟩, hL, Only.refl g w⟩
  case round =>
    obtain ⟨i, cc, Li, hi, rfl, rfl, hc0, hc1, hA, hbk, ho⟩ := hrel
    by_cases hlt : i < m
    · obtain ⟨bb, ob, rfl, hcb⟩ := hst _ ho (by rw [HB.out]; omega)
      have c1 := hcb i (by rw [HB.out]; omega)
      clear hcb
      have c2 := hbk.cell (s + i) (by rw [hA.1, HL.out]; omega)
      have c3 := hbk.frozen (s + i)
      rw [getD_of_drop hA.2.2.1] at c2
      have hxr := hw.getD (s + i)
      have hyr := hbw.getD i
      obtain ⟨v, hv⟩ : ∃ v, L.getD (s + i) 0 = v := ⟨_, rfl⟩
      obtain ⟨y, hy⟩ : ∃ y, ys.getD i 0 = y := ⟨_, rfl⟩
      rw [hv] at c2 hxr
      rw [hy] at c1 hyr
      have HV := Lib.hid hv; clear hv
      have HY := Lib.hid hy; clear hy
      obtain ⟨x0, x1⟩ := hxr
      obtain ⟨y0, y1⟩ := hyr
      obtain ⟨p0, p1, p2⟩ := sh_wrap hr32 y0 y1
      obtain ⟨p, hp⟩ : ∃ p, y * 2 ^ r = p := ⟨_, rfl⟩
      rw [hp] at p0 p1
      have hpw : IntKind.u64.wrap (y * 2 ^ r) = p := by rw [p2, hp]
      have HP := Lib.hid hp; clear hp p2
      have HA := Lib.hid hA; clear hA
      go_wp2
      go_roundw
      case rel =>
        have st := HA.out.step (by rw [HL.out]; omega) p (cc + p + v) (by rw [HV.out]; omega)
        rw [← HP.out, sh_step, ← HY.out, ← num_take_succ ys i (by rw [HB.out]; exact hlt), HY.out, HP.out] at st
        exact ⟨i + 1, _, _, by omega, by go_num, rfl, by omega, by omega, st, hbk.set _ _, ho.setCell _ _⟩
      case measure => simp [intOf] <;> omega
    · have ht : ys.take i = ys := List.take_of_length_le (by rw [HB.out]; omega)
      rw [ht] at hA
      by_cases hcc : 0 < cc
      · have hin : s + i < n := by have := hA.fits (by rw [HL.out]; exact hi) (by rw [HL.out]; exact HF.out) hcc; rw [HL.out] at this; exact this
        have c2 := hbk.cell (s + i) (by rw [hA.1, HL.out]; omega)
        have c3 := hbk.frozen (s + i)
        rw [getD_of_drop hA.2.2.1] at c2
        have hxr := hw.getD (s + i)
        obtain ⟨v, hv⟩ : ∃ v, L.getD (s + i) 0 = v := ⟨_, rfl⟩
        rw [hv] at c2 hxr
        have HV := Lib.hid hv; clear hv
        obtain ⟨x0, x1⟩ := hxr
        have HA := Lib.hid hA; clear hA
        have HT := Lib.hid ht; clear ht
        go_wp2
        go_roundw
        case rel =>
          have st := HA.out.step (by rw [HL.out]; omega) 0 (cc + v) (by rw [HV.out]; omega)
          rw [Int.mul_zero, Int.add_zero] at st
          refine ⟨i + 1, _, _, by omega, by go_num, rfl, by omega, by omega, ?_, hbk.set _ _, ho.setCell _ _⟩
          rw [List.take_of_length_le (by rw [HB.out]; omega)]
          exact st
        case measure => simp [intOf] <;> omega
      · obtain rfl : cc = 0 := by omega
        have HA := Lib.hid hA; clear hA
        go_wp2
        go_end0
        exact ⟨rfl, Li, hbk, by rw [HA.out.1, HL.out], HA.out.2.1, HA.out.done, ho⟩

/-- it adds m times a power of two -/
theorem addShifted_any (g n cap m cb k : Nat) (kI : Int) (bo : Option Addr) (L : List Int) (a : Nat) (w : World) (hk : (k : Int) = kI) (hL : Blk w g L) (hl : L.length = n) (hw : Wf L) (hn : n ≤ 1000000) (hcap : n ≤ cap) (ha : a ≠ 0)
    (hbl : (limbs a).length = m) (hst : Stay g w bo (limbs a)) (hfit : num L + (a : Int) * 2 ^ k < 4294967296 ^ n) :
    Calls Tryz.prog 219 #[.slice (some ⟨g, 0, none⟩) n cap, .slice bo m cb, .int .i64 kI] w fun e w' => e = .returned (.tuple #[]) ∧ ∃ L', Blk w' g L' ∧ L'.length = n ∧ Wf L' ∧ num L' = num L + (a : Int) * 2 ^ k ∧ Only g w w' := by
  subst hk
  obtain ⟨s, r, hr, rfl⟩ : ∃ s r, r < 32 ∧ k = s * 32 + r := ⟨k / 32, k % 32, by omega, by omega⟩
  have hm0 : 0 < m := by
    rcases Nat.eq_zero_or_pos m with h | h
    · exfalso; apply ha; rw [h] at hbl
      exact limbs_inj (by rw [limbs_zero]; exact List.eq_nil_of_length_eq_zero hbl)
    · exact h
  have htop : (limbs a).getD (m - 1) 0 ≠ 0 := by
    intro h0
    have h2 := tlen_eq (Wf.limbs a)
    rw [num_limbs, show ((a : Int)).toNat = a by omega, hbl] at h2
    have h3 : tlen (limbs a) m ≤ m - 1 := by
      obtain ⟨j, rfl⟩ : ∃ j, m = j + 1 := ⟨m - 1, by omega⟩
      rw [tlen, if_pos (by simpa using h0)]
      exact tlen_le _ _
    omega
  have hroom := sh_room (n := n) hbl (Wf.limbs a) hm0 htop (num_nonneg hw) (by rw [num_limbs]; exact hfit)
  have := addShifted_raw g n cap m cb s r bo L (limbs a) w hL hl hw hn hcap hroom (by omega) hr hbl (Wf.limbs a) hst (by rw [sh_val, num_limbs]; exact hfit)
  rw [sh_val, num_limbs] at this
  exact this
end Go.Proofs.YtjohpdobnedilaaGreatDoor

/- Slices of dyads in memory: those that are read, those that a call makes for itself. -/
namespace Go.Proofs.YtjohpdobnedilaaGreatDoor
open Go Go.RowKit

/-- the parts of a dyad in memory -/
structure DP where
  bb : Bool
  nb : Bool
  ao : Option Addr
  n : Nat
  ca : Nat
  e : Int
def DP.v (p : DP) : Value := .agg #[.bool p.bb, .bool p.nb, .slice p.ao p.n p.ca, .int .i64 p.e]
def DP.cells (p : DP) : List Value := [.bool p.bb, .bool p.nb, .slice p.ao p.n p.ca, .int .i64 p.e]
def DP.zero : DP := ⟨false, false, none, 0, 0, 0⟩
/-- the cells of some dyads -/
def cells4 : List DP → List Value
  | [] => []
  | p :: l => .bool p.bb :: .bool p.nb :: .slice p.ao p.n p.ca :: .int .i64 p.e :: cells4 l

theorem cells4_len (l : List DP) : (cells4 l).length = 4 * l.length := by
  induction l with
  | nil => rfl
  | cons p l ih => simp only [cells4, List.length_cons, ih]; omega
theorem cells4_append (a b : List DP) : cells4 (a ++ b) = cells4 a ++ cells4 b := by
  induction a with
  | nil => rfl
  | cons p l ih => simp only [List.cons_append, cells4, ih]

theorem cells4_get (l : List DP) (j : Nat) (h : j < l.length) :
    (cells4 l)[4 * j]? = some (.bool (l.getD j DP.zero).bb) ∧ (cells4 l)[4 * j + 1]? = some (.bool (l.getD j DP.zero).nb) ∧
    (cells4 l)[4 * j + 2]? = some (.slice (l.getD j DP.zero).ao (l.getD j DP.zero).n (l.getD j DP.zero).ca) ∧ (cells4 l)[4 * j + 3]? = some (.int .i64 (l.getD j DP.zero).e) := by
  induction l generalizing j with
  | nil => simp at h
  | cons p l ih =>
    cases j with
    | zero => simp [cells4]
    | succ j =>
      have := ih j (by simpa using h)
      rw [show 4 * (j + 1) = 4 * j + 1 + 1 + 1 + 1 by omega]
      simpa [cells4, Nat.add_right_comm] using this

theorem cells4_set (l : List DP) (j : Nat) (p : DP) : ((((cells4 l).set (4 * j) (.bool p.bb)).set (4 * j + 1) (.bool p.nb)).set (4 * j + 2) (.slice p.ao p.n p.ca)).set (4 * j + 3) (.int .i64 p.e) = cells4 (l.set j p) := by
  induction l generalizing j with
  | nil => simp [cells4]
  | cons q l ih =>
    cases j with
    | zero => simp [cells4]
    | succ j =>
      have := ih j
      rw [show 4 * (j + 1) = 4 * j + 1 + 1 + 1 + 1 by omega]
      simp only [cells4, List.set_cons_succ, Nat.add_right_comm _ 1 3, Nat.add_right_comm _ 1 2]
      rw [← this]

/-- block g holds these dyads, and can be written -/
def DB (w : World) (g : Nat) (l : List DP) : Prop := w.heap[g]? = some (.cells (cells4 l).toArray 39 (0, 0))
section
variable {w w' : World} {g : Nat} {l : List DP}
theorem DB.lt (h : DB w g l) : g < w.heap.size := (Array.getElem?_eq_some_iff.1 h).1
theorem DB.f (h : DB w g l) (o : Nat) : w.frozen? ⟨g, o, none⟩ = false := by
  unfold DB at h; simp [World.frozen?, h]
theorem DB.kept {B : Nat} (h : DB w g l) (hb : Below B w w') (hg : g < B) : DB w' g l := by
  unfold DB; rw [hb.block g hg]; exact h
theorem DB.below (h : DB w g l) (hb : Below w.heap.size w w') : DB w' g l := h.kept hb h.lt
theorem DB.only {k : Nat} (h : DB w g l) (ho : Only k w w') (hne : g ≠ k) : DB w' g l := by
  unfold DB; rw [ho.block g hne]; exact h
theorem DB.drew (h : DB w g l) : DB w.drew g l := h
theorem DB.c (h : DB w g l) (j : Nat) (hj : j < l.length) :
    w.cell? ⟨g, 4 * j, none⟩ = some (.bool (l.getD j DP.zero).bb) ∧ w.cell? ⟨g, 4 * j + 1, none⟩ = some (.bool (l.getD j DP.zero).nb) ∧
    w.cell? ⟨g, 4 * j + 2, none⟩ = some (.slice (l.getD j DP.zero).ao (l.getD j DP.zero).n (l.getD j DP.zero).ca) ∧ w.cell? ⟨g, 4 * j + 3, none⟩ = some (.int .i64 (l.getD j DP.zero).e) := by
  obtain ⟨h0, h1, h2, h3⟩ := cells4_get l j hj
  rw [cell_of_row w g _ _ _ _ h, cell_of_row w g _ _ _ _ h, cell_of_row w g _ _ _ _ h, cell_of_row w g _ _ _ _ h]
  simp only [List.getElem?_toArray]
  exact ⟨h0, h1, h2, h3⟩
end
/-- four cells of block g set -/
def set4 (w : World) (g o : Nat) (p : DP) : World := (((w.setCell ⟨g, o, none⟩ (.bool p.bb)).setCell ⟨g, o + 1, none⟩ (.bool p.nb)).setCell ⟨g, o + 2, none⟩ (.slice p.ao p.n p.ca)).setCell ⟨g, o + 3, none⟩ (.int .i64 p.e)
theorem only_set4' (w : World) (g o : Nat) (p : DP) : Only g w (set4 w g o p) := ((((Only.refl g w).setCell _ _).setCell _ _).setCell _ _).setCell _ _
theorem DB.set {w : World} {g : Nat} {l : List DP} (h : DB w g l) (j : Nat) (p : DP) : DB (set4 w g (4 * j) p) g (l.set j p) := by
  unfold DB at h ⊢
  unfold set4
  simp only [World.setCell, Array.getElem?_modify, if_true, h, Option.map_some]
  rw [← cells4_set]
  simp

theorem cells4_kind (l : List DP) (i : Nat) (x : Int) : (cells4 l)[i]? ≠ some (.int .u32 x) := by
  induction l generalizing i with
  | nil => simp [cells4]
  | cons p l ih =>
    match i with
    | 0 => simp [cells4]
    | 1 => simp [cells4]
    | 2 => simp [cells4]
    | 3 => simp [cells4]
    | i + 4 => simpa [cells4] using ih i
/-- limbs do not lie among dyads -/
theorem At.only_db {w w' : World} {g : Nat} {l : List DP} {ro : Option Addr} {zs : List Int} (hx : DB w g l) (h : At w ro zs) (ho : Only g w w') : At w' ro zs := by
  intro h0
  obtain ⟨b, off, e, hc⟩ := h h0
  refine ⟨b, off, e, fun j hj => ?_⟩
  have hne : b ≠ g := by
    rintro rfl
    have := hc j hj
    rw [cell_of_row w b (off + j) _ _ _ hx] at this
    simp only [List.getElem?_toArray] at this
    exact cells4_kind _ _ _ this
  rw [World.cell?_of_block (w := w) (ho.block b hne)]
  exact hc j hj
theorem Sl.only_db {w w' : World} {g k cr : Nat} {l : List DP} {ro : Option Addr} {zs : List Int} (h : Sl w ro k cr zs) (hx : DB w g l) (ho : Only g w w') : Sl w' ro k cr zs :=
  ⟨h.len, h.cap, h.big, h.wf, h.cells.only_db hx ho⟩
theorem Bn.only_db {w w' : World} {g k cr : Nat} {l : List DP} {mb : Bool} {ro : Option Addr} {x : Int} (h : Bn w mb ro k cr x) (hx : DB w g l) (ho : Only g w w') : Bn w' mb ro k cr x :=
  ⟨h.neg, h.sl.only_db hx ho⟩
theorem Dn.only_db {w w' : World} {g : Nat} {l : List DP} {v : Value} {d : Dy} (h : Dn w v d) (hx : DB w g l) (ho : Only g w w') : Dn w' v d := by
  obtain ⟨h0, nb, ao, n, ca, h1, h2⟩ := h
  exact ⟨h0, nb, ao, n, ca, h1, h2.only_db hx ho⟩

theorem Tryz.infoDyad : (Tryz.prog.info? 39).map (fun i => (i.zero, i.size, i.bytes)) = some (some (.agg #[.bool false, .bool false, .slice none 0 0, .int .i64 0]), 4, 48) := by kernel_rfl
theorem made4 (n : Nat) : (madeCells (Value.agg #[.bool false, .bool false, .slice none 0 0, .int .i64 0]).cells (n * 4)).toList = cells4 (List.replicate n DP.zero) := by
  apply List.ext_getElem?
  intro i
  by_cases hi : i < n * 4
  · obtain ⟨h0, h1, h2, h3⟩ := cells4_get (List.replicate n DP.zero) (i / 4) (by rw [List.length_replicate]; omega)
    have hg : (List.replicate n DP.zero).getD (i / 4) DP.zero = DP.zero := by simp [List.getD, show i / 4 < n by omega]
    rw [hg] at h0 h1 h2 h3
    have hl : (madeCells (Value.agg #[.bool false, .bool false, .slice none 0 0, .int .i64 0]).cells (n * 4)).toList[i]? = some (#[Value.bool false, .bool false, .slice none 0 0, .int .i64 0][i % 4]!) := by
      simp [madeCells, hi, Value.cells]
    rw [hl]
    have : i % 4 = 0 ∨ i % 4 = 1 ∨ i % 4 = 2 ∨ i % 4 = 3 := by omega
    rcases this with h | h | h | h
    · rw [show i = 4 * (i / 4) by omega, h0, show 4 * (i / 4) % 4 = 0 by omega]; rfl
    · rw [show i = 4 * (i / 4) + 1 by omega, h1, show (4 * (i / 4) + 1) % 4 = 1 by omega]; rfl
    · rw [show i = 4 * (i / 4) + 2 by omega, h2, show (4 * (i / 4) + 2) % 4 = 2 by omega]; rfl
    · rw [show i = 4 * (i / 4) + 3 by omega, h3, show (4 * (i / 4) + 3) % 4 = 3 by omega]; rfl
  · rw [List.getElem?_eq_none (by simp [size_madeCells]; omega), List.getElem?_eq_none (by rw [cells4_len, List.length_replicate]; omega)]
set_option maxRecDepth 100000 in
/-- a new array of dyads -/
theorem run_make_dyads (k n : Nat) (hk : k ≤ n) (hn : n ≤ 1000000) : ∃ O, (∀ w, (Instr.makeSlice 114 (.int .i64 (k : Int)) (.int .i64 (n : Int))).run Tryz.prog w = .ok (.slice (some ⟨w.heap.size, 0, none⟩) k n) (w.alloc O)) ∧ ∀ w : World, DB (w.alloc O) w.heap.size (List.replicate n DP.zero) := by
  obtain ⟨i0, hi, hz0, hz1, hz2⟩ := info_parts Tryz.infoDyad
  have h := fun w => run_make (P := Tryz.prog) w 114 39 i0 _ Tryz.underlying114 hi hz0 .i64 .i64 (k : Int) (n : Int) (by omega) (by omega) (by rw [hz2]; omega) (by omega)
  simp only [Int.toNat_natCast] at h
  refine ⟨_, h, fun w => ?_⟩
  unfold DB
  rw [heap_alloc_new, hz1]
  congr 2
  apply Array.ext'
  rw [made4]

theorem wpList_make_dyads (w : World) {ops : Array Oper} {rest : List Oper} {o : Oper} {a : Act} {Q : Exit → Act → World → Prop}
    (hg : o.guard = none) (l c : Operand) (hop : o.op = Op.makeSlice 114 l c) (K L : Int) (k n : Nat)
    (hl : a.eval l = .int .i64 K) (hc : a.eval c = .int .i64 L) (hK : K = (k : Int)) (hL : L = (n : Int)) (hkn : k ≤ n) (hn : n ≤ 1000000)
    (hN : ∀ w', DB w' w.heap.size (List.replicate n DP.zero) → Below w.heap.size w w' → w'.heap.size = w.heap.size + 1 → wpList Tryz.prog ops Q rest (a.put o.dst (.slice (some ⟨w.heap.size, 0, none⟩) k n)) w') :
    wpList Tryz.prog ops Q (o :: rest) a w := by
  subst hK
  subst hL
  obtain ⟨O, hrun, hnew⟩ := run_make_dyads k n hkn hn
  refine wpList_plain hg fun K hK' => ?_
  unfold Oper.wp
  simp [execOp, hop, hl, hc, hrun, Result.andThen]
  exact hK' _ _ (hN _ (hnew w) ((Below.refl _ w).alloc (Nat.le_refl _) _) (by simp))

theorem cells4_oneCell (l : List DP) : ∀ u ∈ cells4 l, u.oneCell' = true := by
  induction l with
  | nil => intro u hu; cases hu
  | cons p l ih =>
    intro u hu
    simp only [cells4, List.mem_cons] at hu
    rcases hu with rfl | rfl | rfl | rfl | hu <;> first | rfl | exact ih u hu

/-- the slice reads as the dyads D, which need not be normalized -/
structure DSl (w : World) (ao : Option Addr) (n cap : Nat) (l : List DP) (D : List Dy) : Prop where
  len : l.length = n
  lenD : D.length = n
  cap : n ≤ cap
  cells : 0 < n → ∃ b off, ao = some ⟨b, off, none⟩ ∧ ∀ j, j < n → w.cell? ⟨b, off + 4 * j, none⟩ = some (.bool (l.getD j DP.zero).bb) ∧ w.cell? ⟨b, off + 4 * j + 1, none⟩ = some (.bool (l.getD j DP.zero).nb) ∧
    w.cell? ⟨b, off + 4 * j + 2, none⟩ = some (.slice (l.getD j DP.zero).ao (l.getD j DP.zero).n (l.getD j DP.zero).ca) ∧ w.cell? ⟨b, off + 4 * j + 3, none⟩ = some (.int .i64 (l.getD j DP.zero).e)
  reads : ∀ j, j < n → Dg w (l.getD j DP.zero).v (D.getD j none)

theorem DSl.below {w w' : World} {ao : Option Addr} {n cap : Nat} {l : List DP} {D : List Dy} (h : DSl w ao n cap l D) (hb : Ext w w') : DSl w' ao n cap l D :=
  ⟨h.len, h.lenD, h.cap, fun h0 => by
    obtain ⟨b, off, e, hc⟩ := h.cells h0
    refine ⟨b, off, e, fun j hj => ?_⟩
    obtain ⟨c0, c1, c2, c3⟩ := hc j hj
    exact ⟨by rw [hb.cell (p := ⟨b, _, none⟩) (lt_of_cell c0)]; exact c0, by rw [hb.cell (p := ⟨b, _, none⟩) (lt_of_cell c1)]; exact c1, by rw [hb.cell (p := ⟨b, _, none⟩) (lt_of_cell c2)]; exact c2, by rw [hb.cell (p := ⟨b, _, none⟩) (lt_of_cell c3)]; exact c3⟩,
   fun j hj => (h.reads j hj).ext hb⟩
theorem DSl.at {w : World} {ao : Option Addr} {n cap : Nat} {l : List DP} {D : List Dy} (h : DSl w ao n cap l D) (j : Nat) (hj : j < n) : ∃ b off bb nb bo m cb e, ao = some ⟨b, off, none⟩ ∧
    w.cell? ⟨b, off + 4 * j, none⟩ = some (.bool bb) ∧ w.cell? ⟨b, off + 4 * j + 1, none⟩ = some (.bool nb) ∧ w.cell? ⟨b, off + 4 * j + 2, none⟩ = some (.slice bo m cb) ∧ w.cell? ⟨b, off + 4 * j + 3, none⟩ = some (.int .i64 e) ∧
    Dg w (.agg #[.bool bb, .bool nb, .slice bo m cb, .int .i64 e]) (D.getD j none) := by
  obtain ⟨b, off, e, hc⟩ := h.cells (by omega)
  obtain ⟨c0, c1, c2, c3⟩ := hc j hj
  exact ⟨b, off, _, _, _, _, _, _, e, c0, c1, c2, c3, h.reads j hj⟩
/-- the first k of a block of the call's own, read as a slice -/
theorem DB.sl {w : World} {g k cap : Nat} {l : List DP} {D : List Dy} (h : DB w g l) (hk : k ≤ l.length) (hD : D.length = k) (hc : k ≤ cap) (hr : ∀ j, j < k → Dg w (l.getD j DP.zero).v (D.getD j none)) : DSl w (some ⟨g, 0, none⟩) k cap (l.take k) D :=
  ⟨by rw [List.length_take]; omega, hD, hc, fun _ => ⟨g, 0, rfl, fun j hj => by
    have := h.c j (by omega)
    have e : (l.take k).getD j DP.zero = l.getD j DP.zero := by simp [List.getD, hj]
    simp only [Nat.zero_add]; rw [e]; exact this⟩, fun j hj => by
    have e : (l.take k).getD j DP.zero = l.getD j DP.zero := by simp [List.getD, hj]
    rw [e]; exact hr j hj⟩

/-- a dyad is appended where there is room -/
theorem wpList_append_dyad (w : World) {ops : Array Oper} {rest : List Oper} {o : Oper} {a : Act} {Q : Exit → Act → World → Prop}
    (hg : o.guard = none) (s x : Operand) (hop : o.op = Op.call { callee := Callee.builtin Builtin.append, args := #[s, x], argTypes := #[114, 114] })
    (g k cap c : Nat) (l : List DP) (p : DP) (hs : a.eval s = .slice (some ⟨g, 0, none⟩) k cap) (hb : DB w g l) (hl : l.length = cap) (hk : k < cap)
    (C : Nat) (hx : a.eval x = .slice (some ⟨C, 0, none⟩) 1 c) (hC : DB w C [p])
    (hN : wpList Tryz.prog ops Q rest (a.put o.dst (.slice (some ⟨g, 0, none⟩) (k + 1) cap)) (set4 w g (4 * k) p)) :
    wpList Tryz.prog ops Q (o :: rest) a w := by
  obtain ⟨i0, hi, hz0, hz1, hz2⟩ := info_parts Tryz.infoDyad
  obtain ⟨d0, d1, d2, d3⟩ := hC.c 0 (by simp)
  obtain ⟨c0, c1, c2, c3⟩ := hb.c k (by omega)
  simp only [Nat.mul_zero, Nat.zero_add] at d0 d1 d2 d3
  have hrun := run_append_room_cells (P := Tryz.prog) w 114 o.type 39 i0 Tryz.underlying114 hi g 0 k cap ⟨C, 0, none⟩ 1 c (cells4 [p]) (by rw [hz1]; rfl)
    (by
      intro j u hj
      rw [Addr.add_lit, Nat.zero_add]
      match j with
      | 0 => simp [cells4] at hj; subst hj; exact d0
      | 1 => simp [cells4] at hj; subst hj; exact d1
      | 2 => simp [cells4] at hj; subst hj; exact d2
      | 3 => simp [cells4] at hj; subst hj; exact d3
      | j + 4 => simp [cells4] at hj)
    (cells4_oneCell _) (by omega)
    (by
      intro j hj
      rw [hz1, Nat.zero_add, Nat.mul_comm k 4]
      match j, hj with
      | 0, _ => rw [Nat.add_zero, c0]; rfl
      | 1, _ => rw [c1]; rfl
      | 2, _ => rw [c2]; rfl
      | 3, _ => rw [c3]; rfl
      | j + 4, hj => exfalso; simp [cells4] at hj; omega)
    (fun j _ => hb.f _)
  rw [hz1, Nat.zero_add, Nat.mul_comm k 4] at hrun
  refine wpList_plain hg fun K hK' => ?_
  unfold Oper.wp
  simp [execOp, hop, resolve, invoke, builtin, hs, hx, hrun, Result.andThen]
  exact hK' _ _ hN
end Go.Proofs.YtjohpdobnedilaaGreatDoor

/- What dyad.total does: the sum of dyads that are not zero. -/
namespace Go.Proofs.YtjohpdobnedilaaGreatDoor
open Go Go.RowKit

set_option maxRecDepth 100000 in
/-- a new array of zeros, as one step of a region that draws -/
theorem mk_any (n : Nat) (hn : n ≤ 1000000) : ∃ O, (∀ w, (Instr.makeSlice 35 (.int .i64 (n : Int)) (.int .i64 (n : Int))).run Tryz.prog w = .ok (.slice (some ⟨w.heap.size, 0, none⟩) n n) (w.alloc O)) ∧ ∀ w : World, Blk (w.alloc O) w.heap.size (List.replicate n 0) := by
  obtain ⟨i0, hi, hz0, hz1, hz2⟩ := info_parts Tryz.infoU32
  have h := fun w => run_make (P := Tryz.prog) w 35 64 i0 (.int .u32 0) Tryz.underlying35 hi hz0 .i64 .i64 (n : Int) (n : Int) (by omega) (by omega) (by rw [hz2]; omega) (by omega)
  simp only [Int.toNat_natCast] at h
  refine ⟨_, h, fun w => ?_⟩
  unfold Blk
  rw [heap_alloc_new, hz1, Nat.mul_one]
  congr 2
  apply Array.ext'
  show (madeCells #[Value.int .u32 0] _).toList = _
  rw [toList_madeCells_one]
  simp

theorem two_made {V : World} {O : Obj} {n : Nat} (h : ∀ w : World, Blk (w.alloc O) w.heap.size (List.replicate n 0)) {B : Nat} (hB : B ≤ V.heap.size) :
    Blk ((V.alloc O).alloc O).drew V.heap.size (List.replicate n 0) ∧ Blk ((V.alloc O).alloc O).drew (V.heap.size + 1) (List.replicate n 0) ∧ Below B V ((V.alloc O).alloc O).drew := by
  have e1 := h V
  have e2 := h (V.alloc O)
  rw [show (V.alloc O).heap.size = V.heap.size + 1 by simp] at e2
  exact ⟨(e1.below ((Below.refl _ _).alloc (Nat.le_refl _) O)).drew, e2.drew, (((Below.refl _ _).alloc hB _).alloc (by simp; omega) _).drew⟩

theorem cast_ab (A b k : Nat) : ((A + b * 2 ^ k : Nat) : Int) = (A : Int) + (b : Int) * 2 ^ k := by push_cast; rfl

/-- a term in memory -/
theorem term_at {w W : World} {ao : Option Addr} {n cap : Nat} {l : List DP} {D : List Dy} {T : List (Int × Int)} (h : DSl w ao n cap l D) (hD : D = T.map some) (hN : ∀ j, j < n → Dn w (l.getD j DP.zero).v (D.getD j none)) (hb : Ext w W) (j : Nat) (hj : j < n) :
    ∃ b off nb bo m cb, ao = some ⟨b, off, none⟩ ∧ W.cell? ⟨b, off + 4 * j, none⟩ = some (.bool false) ∧ W.cell? ⟨b, off + 4 * j + 1, none⟩ = some (.bool nb) ∧ W.cell? ⟨b, off + 4 * j + 2, none⟩ = some (.slice bo m cb) ∧
      W.cell? ⟨b, off + 4 * j + 3, none⟩ = some (.int .i64 (T.getD j (0, 0)).2) ∧ Bn W nb bo m cb (T.getD j (0, 0)).1 ∧
      ∀ g W', Ext w W' → w.heap.size ≤ g → Stay g W' bo (limbs (T.getD j (0, 0)).1.natAbs) := by
  have h' := h.below hb
  obtain ⟨b, off, e, hc⟩ := h'.cells (by omega)
  obtain ⟨c0, c1, c2, c3⟩ := hc j hj
  have hr0 := hN j hj
  have hl := h.lenD
  have hlt : j < T.length := by rw [hD, List.length_map] at hl; omega
  have hg : D.getD j none = some (T.getD j (0, 0)) := by rw [hD]; simp [List.getD, hlt]
  rw [hg] at hr0
  obtain ⟨h1, h2, h3⟩ := Dn.get hr0
  refine ⟨b, off, _, _, _, _, e, ?_, c1, c2, ?_, h3.below hb, fun g W' hW hg => h3.sl.cells.stay_below hW hg⟩
  · rw [c0, h1]; rfl
  · rw [c3, h2]; rfl

set_option maxRecDepth 100000 in
set_option maxHeartbeats 4000000 in
theorem total_any (ao : Option Addr) (n cap : Nat) (l : List DP) (D : List Dy) (T : List (Int × Int)) (w : World) (h : DSl w ao n cap l D) (hD : D = T.map some) (hok : ∀ t ∈ T, TermOk t) (hN : ∀ j, j < n → Dn w (l.getD j DP.zero).v (D.getD j none)) (hT : Table w) (hn : n ≤ 1000000) :
    Calls Tryz.prog 188 #[.slice ao n cap] w fun e w' => ∃ v, e = .returned v ∧ Dn w' v (dmk (scs D) (-65536)) ∧ Ext w w' := by
  have hTl : T.length = n := by have := h.lenD; rw [hD, List.length_map] at this; exact this
  have HD := Lib.hid hD
  have HTL := Lib.hid hTl
  obtain ⟨hlo0, hlo1, hlo⟩ := lowT_facts hok
  obtain ⟨hhi0, hhi1, hhi⟩ := highT_facts hok
  have hterm := fun W (hb : Ext w W) j hj => term_at h hD hN hb j hj
  have HTERM := Lib.hid hterm
  have HOK := Lib.hid hok
  have HLO := Lib.hid hlo
  have HHI := Lib.hid hhi
  clear hterm hok hlo hhi hTl hD hN h
  go_enter Tryz.func188, Tryz.ntmps188
  go_upto_region 1 with fail
  obtain ⟨W, hW, hB, hbx, hz⟩ := dbox_new w false false none 0 0 0
  rw [← hW]
  clear hW
  have HT := Lib.hid hT; clear hT
  generalize hBe : w.heap.size = B at *
  have HBe := Lib.hid hBe
  have HEX : ∀ wx, Below B w wx → Ext w wx := fun wx h => by rw [← hBe] at h; exact h
  have HEX := Lib.hid HEX
  clear hBe
  go_wp2
  go_loopw [3, 4, 6, 14] (fun lo hi _ ix wr => ∃ j : Nat, j ≤ n ∧ ix = .int .i64 j ∧ lo = .int .i64 (lowT (T.take j)) ∧ hi = .int .i64 (highT (T.take j)) ∧ Below B w wr ∧ DBox wr B false false none 0 0 0) (fun _ _ _ ix _ => n - (intOf ix).toNat)
  case atStart => exact ⟨0, Nat.zero_le _, rfl, rfl, rfl, hB, hbx⟩
  case round =>
    obtain ⟨j, hj, rfl, rfl, rfl, hE, hbr⟩ := hrel
    by_cases hlt : j < n
    · obtain ⟨b, off, nb, bo, m, cb, rfl, c0, c1, c2, c3, hbn, -⟩ := HTERM.out wr (HEX.out _ hE) j hlt
      have hlow := lowT_next (l := T) (j := j) (by rw [HTL.out]; exact hlt)
      have hhigh := highT_next (l := T) (j := j) (by rw [HTL.out]; exact hlt)
      have htok : TermOk (T.getD j (0, 0)) := by
        have e : T.getD j (0, 0) = T[j]'(by rw [HTL.out]; exact hlt) := by simp [List.getD, show j < T.length by rw [HTL.out]; exact hlt]
        rw [e]; exact HOK.out _ (List.getElem_mem _)
      have hl0 := lowT_facts (l := T.take j) (fun t ht => HOK.out t (List.mem_of_mem_take ht))
      have hh0 := highT_facts (l := T.take j) (fun t ht => HOK.out t (List.mem_of_mem_take ht))
      obtain ⟨lo, hlo⟩ : ∃ lo, lowT (T.take j) = lo := ⟨_, rfl⟩
      obtain ⟨hi, hhi⟩ : ∃ hi, highT (T.take j) = hi := ⟨_, rfl⟩
      obtain ⟨tm, te, ht⟩ : ∃ tm te, T.getD j (0, 0) = (tm, te) := ⟨_, _, rfl⟩
      rw [ht] at c3 hbn htok hlow hhigh
      rw [hlo] at hlow hl0 ⊢
      rw [hhi] at hhigh hh0 ⊢
      obtain ⟨hl0, hl1, _⟩ := hl0
      obtain ⟨hh0, hh1, _⟩ := hh0
      obtain ⟨_, ht1, ht2⟩ := htok
      simp only at ht1 ht2 hlow hhigh c3 hbn
      have hw9 := hE.size
      have HLOW := Lib.hid hlow
      have HHIGH := Lib.hid hhigh
      clear hlow hhigh hlo hhi ht
      have hbg : Bg wr nb bo m cb tm := bn_bg_of hbn (by omega)
      have e4 : off + j * 4 = off + 4 * j := by omega
      go_wp2
      obtain ⟨V, hV, hVB, hvx, hvz⟩ := dbox_new wr false nb bo m cb te
      rw [← hV]
      clear hV
      obtain ⟨hEV, hEV'⟩ := bnext hE (by have := hbr.lt; omega) hVB
      have hbr := hbr.below hVB
      have hbg := hbg.below hVB
      obtain ⟨bl, hbl⟩ : ∃ bl, blen tm.natAbs = bl := ⟨_, rfl⟩
      rw [hbl] at ht2 HHIGH
      have HBL := Lib.hid hbl; clear hbl
      clear hbn c0 c1 c2 c3 hE hVB
      generalize wr.heap.size = C at hvx hvz ⊢
      have c0 := hvx.c0
      have c1 := hvx.c1
      have c2 := hvx.c2
      have c3 := hvx.c3
      have hc : ∀ wx, Ext V wx → wx.cell? ⟨C, 0, none⟩ = some (.bool false) ∧ wx.cell? ⟨C, 1, none⟩ = some (.bool nb) ∧ wx.cell? ⟨C, 2, none⟩ = some (.slice bo m cb) ∧ wx.cell? ⟨C, 3, none⟩ = some (.int .i64 te) := fun wx h => ⟨(hvx.ext h).c0, (hvx.ext h).c1, (hvx.ext h).c2, (hvx.ext h).c3⟩
      have HC := Lib.hid hc; clear hc
      have hex : Ext V V.drew := (Below.refl _ _).drew
      go_region_held3 (fun wx => wx.cell? ⟨C, 0, none⟩ = some (.bool false) ∧ wx.cell? ⟨C, 1, none⟩ = some (.bool nb) ∧ wx.cell? ⟨C, 2, none⟩ = some (.slice bo m cb) ∧ wx.cell? ⟨C, 3, none⟩ = some (.int .i64 te))
        (first | exact HC.out _ (by assumption))
        (first
          | (go_at_call 160; refine (dtop_any _ _ _ _ _ _ _ _ (by exact hbg.below (Below.refl _ _).drew) (by omega) (by omega)).mono ?_; rintro e w1 ⟨rfl, hw1⟩; have ex1 : Ext V w1 := hex.trans hw1; rw [HBL.out]))
      all_goals go_wp2
      all_goals obtain ⟨hE1, _⟩ := bnext hEV hEV' ex1
      all_goals exact ⟨⟨j + 1, by omega, by go_num, by rw [HLOW.out], by rw [HHIGH.out], hE1, hbr.below ex1⟩, by simp [intOf] <;> omega⟩
    · obtain rfl : j = n := by omega
      have hlt0 : T.take j = T := List.take_of_length_le (by rw [HTL.out]; exact Nat.le_refl _)
      rw [hlt0]
      obtain ⟨lo, hloe⟩ : ∃ lo, lowT T = lo := ⟨_, rfl⟩
      obtain ⟨hi, hhie⟩ : ∃ hi, highT T = hi := ⟨_, rfl⟩
      rw [hloe] at hlo0 hlo1 HLO ⊢
      rw [hhie] at hhi0 hhi1 HHI ⊢
      clear hloe hhie hlt0 hlt
      obtain ⟨wd, hwd⟩ : ∃ wd : Nat, max (hi - lo) 0 = (wd : Int) := ⟨(max (hi - lo) 0).toNat, by omega⟩
      have hwd1 : wd ≤ 131072 := by omega
      have hbits : ∃ bj, Lib.bitLen j = bj ∧ j < 2 ^ bj ∧ bj ≤ 32 := by
        refine ⟨_, rfl, ?_, bitLen_32 (by omega)⟩
        by_cases h0 : j = 0
        · subst h0; exact Nat.pow_pos (by omega)
        · obtain ⟨l, e, _, l1⟩ := bitLen_spec j h0 (by omega)
          rw [e]; exact l1
      obtain ⟨bj, hbj, hbj0, hbj1⟩ := hbits
      have HB0 := Lib.hid hbj0; clear hbj0
      go_wp2_with fail
      refine (Tryz.bits_Len (j : Int) _ (by omega) (by omega)).mono ?_
      rintro e w1 ⟨rfl, rfl⟩
      rw [show ((j : Int)).toNat = j by omega, hbj]
      obtain ⟨nl, hnl⟩ : ∃ nl : Nat, (wd + bj) / 32 + 1 = nl := ⟨_, rfl⟩
      have hnl1 : (((wd : Int) + (bj : Int)) / 32 + 1 = (nl : Int)) := by omega
      have hnl2 : nl ≤ 5000 := by omega
      have HNL := Lib.hid hnl; clear hnl
      go_wp2
      obtain ⟨O, hmk, hblk⟩ := mk_any nl (by omega)
      have hsz := hbr.lt
      obtain ⟨V, hV⟩ : ∃ V, V = w1 := ⟨_, rfl⟩
      subst hV
      go_cut [8, 9] from 36 (fun p m wx => ∃ g1 g2 : Nat, p = .slice (some ⟨g1, 0, none⟩) nl nl ∧ m = .slice (some ⟨g2, 0, none⟩) nl nl ∧ g1 ≠ g2 ∧ B + 1 ≤ g1 ∧ B + 1 ≤ g2 ∧ Blk wx g1 (List.replicate nl 0) ∧ Blk wx g2 (List.replicate nl 0) ∧ Below (B + 1) V wx)
      case first =>
        go_region
        all_goals
          go_wp2
          go_meet
        all_goals
          obtain ⟨e1, e2, e3⟩ := two_made (V := V) (B := B + 1) hblk (by omega)
          first
            | exact ⟨_, _, rfl, rfl, by omega, by omega, by omega, e1, e2, e3⟩
            | exact ⟨_, _, rfl, rfl, by omega, by omega, by omega, e2, e1, e3⟩
      case rest =>
        obtain ⟨g1, g2, rfl, rfl, hne, hg1, hg2, hb1, hb2, hBV⟩ := hcut
        have hbr := hbr.kept hBV (by omega)
        have hE := hE.trans (hBV.mono (Nat.le_succ B))
        have hfitP := signT_fits (s := false) (f := lo) (W := wd) (k := j) (b := bj) (n := nl) (l := T) (fun t ht => ⟨HLO.out t ht, by have := HHI.out t ht; omega⟩) HTL.out HB0.out (by have := HNL.out; omega)
        have hfitM := signT_fits (s := true) (f := lo) (W := wd) (k := j) (b := bj) (n := nl) (l := T) (fun t ht => ⟨HLO.out t ht, by have := HHI.out t ht; omega⟩) HTL.out HB0.out (by have := HNL.out; omega)
        have HFP := Lib.hid hfitP; clear hfitP
        have HFM := Lib.hid hfitM; clear hfitM
        clear hBV hmk hblk
        obtain ⟨w0, hw0⟩ : ∃ w0, w0 = wc := ⟨_, rfl⟩
        subst hw0
        go_wp2
        go_loopw [11, 46] (fun _ ix wr => ∃ (i : Nat) (P M : List Int), i ≤ j ∧ ix = .int .i64 i ∧ Blk wr g1 P ∧ Blk wr g2 M ∧ (P.length = nl ∧ Wf P ∧ num P = (signT false lo (T.take i) : Int)) ∧ (M.length = nl ∧ Wf M ∧ num M = (signT true lo (T.take i) : Int)) ∧ Below B w wr ∧ DBox wr B false false none 0 0 0)
          (fun _ ix _ => j - (intOf ix).toNat)
        case atStart => exact ⟨0, _, _, Nat.zero_le _, rfl, hb1, hb2, ⟨by simp, Wf.replicate _, by simp [num_replicate, signT]⟩, ⟨by simp, Wf.replicate _, by simp [num_replicate, signT]⟩, hE, hbr⟩
        case round =>
          obtain ⟨i, P, M, hi, rfl, hb1, hb2, hP, hM, hE, hbr⟩ := hrel
          by_cases hlt : i < j
          · obtain ⟨b, off, nb, bo, m, cb, rfl, c0, c1, c2, c3, hbn, hstay⟩ := HTERM.out wr (HEX.out _ hE) i hlt
            have htok : TermOk (T.getD i (0, 0)) := by
              have e : T.getD i (0, 0) = T[i]'(by rw [HTL.out]; exact hlt) := by simp [List.getD, show i < T.length by rw [HTL.out]; exact hlt]
              rw [e]; exact HOK.out _ (List.getElem_mem _)
            have hlte : lo ≤ (T.getD i (0, 0)).2 := by
              have e : T.getD i (0, 0) = T[i]'(by rw [HTL.out]; exact hlt) := by simp [List.getD, show i < T.length by rw [HTL.out]; exact hlt]
              rw [e]; exact HLO.out _ (List.getElem_mem _)
            obtain ⟨tm, te, ht⟩ : ∃ tm te, T.getD i (0, 0) = (tm, te) := ⟨_, _, rfl⟩
            have HTT := Lib.hid ht
            rw [ht] at c3 hbn htok hlte hstay
            clear ht
            obtain ⟨ht0, ht1, ht2⟩ := htok
            simp only at ht0 ht1 ht2 hlte c3 hbn hstay
            have hne0 : tm.natAbs ≠ 0 := by omega
            have hneg := hbn.neg
            have e4 : off + i * 4 = off + 4 * i := by omega
            have hsz2 := hbr.lt
            have hl1 := hb1.lt
            have hl2 := hb2.lt
            by_cases hsg : tm < 0
            · obtain rfl : nb = true := by rw [hneg]; simp [hsg]
              clear hneg
              go_wp2_with fail
              obtain ⟨V2, hV, hVB, hvx, hvz⟩ := dbox_new wr false true bo m cb te
              rw [← hV]
              clear hV
              obtain ⟨hEV, hEV'⟩ := bnext hE (by omega) hVB
              have hbn := hbn.below hVB
              clear c0 c1 c2 c3 hvz hvx
              have hnum := signT_next true lo (l := T) (j := i) (by rw [HTL.out]; exact hlt)
              have hoth := signT_next false lo (l := T) (j := i) (by rw [HTL.out]; exact hlt)
              rw [HTT.out] at hnum hoth
              simp only at hnum hoth
              rw [if_pos (by simp [hsg])] at hnum
              rw [if_neg (by simp [hsg])] at hoth
              have hle := signT_take_le true lo T (i + 1)
              have hfit : num M + (tm.natAbs : Int) * 2 ^ (te - lo).toNat < 4294967296 ^ nl := by
                rw [hM.2.2]
                have h1 : ((signT true lo (T.take (i + 1)) : Nat) : Int) < ((4294967296 ^ nl : Nat) : Int) := Int.ofNat_lt.2 (Nat.lt_of_le_of_lt hle HFM.out)
                rw [hnum] at h1
                rw [cast_ab, Int.natCast_pow] at h1
                exact h1
              have C := Lib.hid (addShifted_any g2 nl nl m cb (te - lo).toNat (te - lo) bo M tm.natAbs V2 (by omega) (hb2.below hVB) hM.1 hM.2.1 (by omega) (Nat.le_refl _) hne0 hbn.sl.len (hstay g2 V2 (HEX.out _ hEV) (by omega)) hfit)
              have hnum' : num M + (tm.natAbs : Int) * 2 ^ (te - lo).toNat = (signT true lo (T.take (i + 1)) : Int) := by rw [hnum, hM.2.2]; rw [cast_ab]
              have hoth' : num P = (signT false lo (T.take (i + 1)) : Int) := by rw [hP.2.2, hoth, Nat.add_zero]
              have HNUM := Lib.hid hnum'; clear hnum' hnum
              have HOTH := Lib.hid hoth'; clear hoth' hoth hle hfit hstay hbn
              have H1 := Lib.hid hP; clear hP hM
              have hob := hb1.below hVB
              have hbr := hbr.below hVB
              clear hb1 hb2 hVB hE
              refine C.out.mono ?_
              rintro e w3 ⟨rfl, P', hp1, hp2, hp3, hp4, hp5⟩
              have hob := hob.only hp5 (by omega)
              have hbr := hbr.only hp5 (by omega)
              have hE3 := hEV.trans (hp5.below (B := B) (by omega))
              rw [HNUM.out] at hp4
              have H4 := Lib.hid hp4; clear hp4
              go_wp2
              go_roundw
              case rel => exact ⟨i + 1, P, P', by omega, by go_num, hob, hp1, ⟨H1.out.1, H1.out.2.1, HOTH.out⟩, ⟨hp2, hp3, H4.out⟩, hE3, hbr⟩
              case measure => simp [intOf] <;> omega
            · obtain rfl : nb = false := by rw [hneg]; simp [hsg]
              clear hneg
              go_wp2_with fail
              obtain ⟨V2, hV, hVB, hvx, hvz⟩ := dbox_new wr false false bo m cb te
              rw [← hV]
              clear hV
              obtain ⟨hEV, hEV'⟩ := bnext hE (by omega) hVB
              have hbn := hbn.below hVB
              clear c0 c1 c2 c3 hvz hvx
              have hnum := signT_next false lo (l := T) (j := i) (by rw [HTL.out]; exact hlt)
              have hoth := signT_next true lo (l := T) (j := i) (by rw [HTL.out]; exact hlt)
              rw [HTT.out] at hnum hoth
              simp only at hnum hoth
              rw [if_pos (by simp [hsg])] at hnum
              rw [if_neg (by simp [hsg])] at hoth
              have hle := signT_take_le false lo T (i + 1)
              have hfit : num P + (tm.natAbs : Int) * 2 ^ (te - lo).toNat < 4294967296 ^ nl := by
                rw [hP.2.2]
                have h1 : ((signT false lo (T.take (i + 1)) : Nat) : Int) < ((4294967296 ^ nl : Nat) : Int) := Int.ofNat_lt.2 (Nat.lt_of_le_of_lt hle HFP.out)
                rw [hnum] at h1
                rw [cast_ab, Int.natCast_pow] at h1
                exact h1
              have C := Lib.hid (addShifted_any g1 nl nl m cb (te - lo).toNat (te - lo) bo P tm.natAbs V2 (by omega) (hb1.below hVB) hP.1 hP.2.1 (by omega) (Nat.le_refl _) hne0 hbn.sl.len (hstay g1 V2 (HEX.out _ hEV) (by omega)) hfit)
              have hnum' : num P + (tm.natAbs : Int) * 2 ^ (te - lo).toNat = (signT false lo (T.take (i + 1)) : Int) := by rw [hnum, hP.2.2]; rw [cast_ab]
              have hoth' : num M = (signT true lo (T.take (i + 1)) : Int) := by rw [hM.2.2, hoth, Nat.add_zero]
              have HNUM := Lib.hid hnum'; clear hnum' hnum
              have HOTH := Lib.hid hoth'; clear hoth' hoth hle hfit hstay hbn
              have H1 := Lib.hid hM; clear hP hM
              have hob := hb2.below hVB
              have hbr := hbr.below hVB
              clear hb1 hb2 hVB hE
              refine C.out.mono ?_
              rintro e w3 ⟨rfl, P', hp1, hp2, hp3, hp4, hp5⟩
              have hob := hob.only hp5 (by omega)
              have hbr := hbr.only hp5 (by omega)
              have hE3 := hEV.trans (hp5.below (B := B) (by omega))
              rw [HNUM.out] at hp4
              have H4 := Lib.hid hp4; clear hp4
              go_wp2
              go_roundw
              case rel => exact ⟨i + 1, P', M, by omega, by go_num, hp1, hob, ⟨hp2, hp3, H4.out⟩, ⟨H1.out.1, H1.out.2.1, HOTH.out⟩, hE3, hbr⟩
              case measure => simp [intOf] <;> omega
          · obtain rfl : i = j := by omega
            have hlt0 : T.take i = T := List.take_of_length_le (by rw [HTL.out]; exact Nat.le_refl _)
            rw [hlt0] at hP hM
            have hgP : Bg wr false (some ⟨g1, 0, none⟩) nl nl (signT false lo T) := ⟨⟨P, hb1.sl hP.2.1 hP.1 (by omega) (Nat.le_refl _), by unfold sgd; simp; rw [hP.2.2]⟩, by omega⟩
            have hgM : Bg wr false (some ⟨g2, 0, none⟩) nl nl (signT true lo T) := ⟨⟨M, hb2.sl hM.2.1 hM.1 (by omega) (Nat.le_refl _), by unfold sgd; simp; rw [hM.2.2]⟩, by omega⟩
            have hdm := signT_dmk (f := lo) (l := T) (by omega) HLO.out
            rw [← HD.out] at hdm
            have HDM := Lib.hid hdm
            obtain ⟨x, hx⟩ : ∃ x : Int, (signT false lo T : Int) = x := ⟨_, rfl⟩
            obtain ⟨y, hy⟩ : ∃ y : Int, (signT true lo T : Int) = y := ⟨_, rfl⟩
            rw [hx] at hgP HDM
            rw [hy] at hgM HDM
            have hsml : blen (x - y).natAbs ≤ 1000000 := by
              have hx1 : x.natAbs < 2 ^ (32 * nl) := by
                have e : (2 : Nat) ^ (32 * nl) = 4294967296 ^ nl := by rw [Nat.pow_mul]
                have := HFP.out; rw [e]; omega
              have hy1 : y.natAbs < 2 ^ (32 * nl) := by
                have e : (2 : Nat) ^ (32 * nl) = 4294967296 ^ nl := by rw [Nat.pow_mul]
                have := HFM.out; rw [e]; omega
              have h3 := blen_le_of_lt (show (x - y).natAbs < 2 ^ (32 * nl + 1) by rw [Nat.pow_succ]; omega)
              omega
            clear hx hy hdm hP hM hlt0 hb1 hb2 hlt
            have hsz3 := hbr.lt
            go_wp2_with fail
            refine (sub_any _ _ _ _ _ _ _ _ _ _ _ hgP hgM).mono ?_
            rintro e w3 ⟨nr, ro, k, cr, rfl, hr, hw3⟩
            have hgr := bn_bg_of hr hsml
            have hbr := hbr.below hw3
            obtain ⟨hE3, hE3'⟩ := bnext hE (by omega) hw3
            have hT3 := Lib.hid (HT.out.below (HEX.out _ hE3))
            go_wp2_with fail
            refine (dreduce_any _ _ _ _ _ _ _ hgr (by omega) (by omega) hT3.out).mono ?_
            rintro e w4 ⟨v, rfl, hv, hw4⟩
            rw [HDM.out] at hv
            obtain ⟨rb, rn, ro2, rk, rc, re, rfl⟩ := hv.parts
            have bx := hbr.below hw4
            obtain ⟨hE4, hE4'⟩ := bnext hE3 (by omega) hw4
            clear hbr hE hE3 hr hgr hw3 hw4
            have q0 := bx.c0
            have q1 := bx.c1
            have q2 := bx.c2
            have q3 := bx.c3
            have f0 := bx.f 0
            have f1 := bx.f 1
            have f2 := bx.f 2
            have f3 := bx.f 3
            have hres := dn_stored bx hv w hE4 (Nat.le_refl B)
            have z3 := bx.stored rb rn ro2 rk rc re
            have z0 := z3.c0
            have z1 := z3.c1
            have z2 := z3.c2
            have z4 := z3.c3
            have HRES := Lib.hid hres; clear hres z3
            go_wp2
            refine bodyPost_ret (v := .agg #[.bool rb, .bool rn, .slice ro2 rk rc, .int .i64 re]) (by simp [results, Tryz.results188, go_sem, z0, z1, z2, z4]) rfl ⟨_, rfl, ?_, ?_⟩
            · exact HRES.out.1
            · show Below _ _ _; rw [HBe.out]; exact HRES.out.2
end Go.Proofs.YtjohpdobnedilaaGreatDoor

/- What dyad.Sum does: the sum of all dyads of a list. -/
namespace Go.Proofs.YtjohpdobnedilaaGreatDoor
open Go Go.RowKit

/-- the terms so far: k of them in block g -/
structure Terms (wr : World) (g n : Nat) (lt : List DP) (T : List (Int × Int)) : Prop where
  db : DB wr g lt
  len : lt.length = n
  fit : T.length ≤ n
  dn : ∀ i, i < T.length → Dn wr (lt.getD i DP.zero).v (some (T.getD i (0, 0)))

theorem Terms.below {w w' : World} {g n : Nat} {lt : List DP} {T : List (Int × Int)} (h : Terms w g n lt T) (hb : Ext w w') : Terms w' g n lt T :=
  ⟨h.db.below hb, h.len, h.fit, fun i hi => (h.dn i hi).ext hb⟩
theorem Terms.only_dbox {w w' : World} {g n B : Nat} {bb nb : Bool} {ao : Option Addr} {k ca : Nat} {f : Int} {lt : List DP} {T : List (Int × Int)} (h : Terms w g n lt T) (hx : DBox w B bb nb ao k ca f) (ho : Only B w w') (hne : g ≠ B) : Terms w' g n lt T :=
  ⟨h.db.only ho hne, h.len, h.fit, fun i hi => (h.dn i hi).only_dbox hx ho⟩
theorem Terms.push {w : World} {g n : Nat} {lt : List DP} {T : List (Int × Int)} (h : Terms w g n lt T) {p : DP} {t : Int × Int} (hp : Dn w p.v (some t)) (hn : T.length < n) :
    Terms (set4 w g (4 * T.length) p) g n (lt.set T.length p) (T ++ [t]) := by
  have ho := only_set4' w g (4 * T.length) p
  refine ⟨h.db.set _ _, by simp [h.len], by simp; omega, fun i hi => ?_⟩
  rw [List.length_append, List.length_singleton] at hi
  by_cases hlt : i < T.length
  · have e1 : (lt.set T.length p).getD i DP.zero = lt.getD i DP.zero := by
      simp [List.getD, show T.length ≠ i by omega]
    have e2 : (T ++ [t]).getD i (0, 0) = T.getD i (0, 0) := by simp [List.getD, List.getElem?_append_left hlt]
    rw [e1, e2]
    exact (h.dn i hlt).only_db h.db ho
  · obtain rfl : i = T.length := by omega
    have e1 : (lt.set T.length p).getD T.length DP.zero = p := by
      have := h.len
      simp [List.getD, show T.length < lt.length by omega]
    have e2 : (T ++ [t]).getD T.length (0, 0) = t := by simp [List.getD]
    rw [e1, e2]
    exact hp.only_db h.db ho

theorem dg_nd {w : World} {v : Value} {d : Dy} (h : Dg w v d) : Nd d := by
  obtain ⟨bb, _, _, _, _, x, f, _, _, _, _, hd⟩ := h
  subst hd
  cases bb
  · exact dmk_nd x f
  · trivial

theorem mem_take_succ {D : List Dy} {j : Nat} (hj : j < D.length) : D.take (j + 1) = D.take j ++ [D.getD j none] := by
  rw [List.take_succ_eq_append_getElem hj]
  simp [List.getD, hj]

set_option maxRecDepth 100000 in
set_option maxHeartbeats 4000000 in
theorem dsum_any (ao : Option Addr) (n cap : Nat) (l : List DP) (D : List Dy) (w : World) (h : DSl w ao n cap l D) (hT : Table w) (hn : n ≤ 1000000) :
    Calls Tryz.prog 147 #[.slice ao n cap] w fun e w' => ∃ v, e = .returned v ∧ Dn w' v (dtotal D) ∧ Ext w w' := by
  have hDl := h.lenD
  have HDL := Lib.hid hDl
  have HH := Lib.hid h
  have hndall : ∀ d ∈ D, Nd d := by
    intro d hd
    obtain ⟨i, hi, rfl⟩ := List.getElem_of_mem hd
    have := dg_nd (h.reads i (by omega))
    simpa [List.getD, hi] using this
  have HND := Lib.hid hndall
  clear hDl h hndall
  go_enter Tryz.func147, Tryz.ntmps147
  go_upto_region 1 with fail
  obtain ⟨W, hW, hB, hbx, hz⟩ := dbox_new w false false none 0 0 0
  rw [← hW]
  clear hW
  have HT := Lib.hid hT; clear hT
  generalize hBe : w.heap.size = B at *
  have HBe := Lib.hid hBe
  have HEX : ∀ wx, Below B w wx → Ext w wx := fun wx h => by rw [← hBe] at h; exact h
  have HEX := Lib.hid HEX
  clear hBe
  go_wp2_with (refine wpList_make_dyads _ rfl _ _ rfl _ _ 0 n rfl rfl rfl rfl (by omega) (by omega) ?_)
  intro w1 hdb hw1 hsz1
  obtain ⟨hE, hE'⟩ := bnext hB (by omega) hw1
  have hbx := hbx.below hw1
  have hgB : B < W.heap.size := by omega
  generalize W.heap.size = g at *
  have hgs : g < w1.heap.size := hdb.lt
  clear hB hw1 hz hsz1
  go_wp2
  go_loopw [3, 5, 11] (fun tv _ ix wr => ∃ (j : Nat) (T : List (Int × Int)) (lt : List DP), j ≤ n ∧ ix = .int .i64 j ∧ tv = .slice (some ⟨g, 0, none⟩) T.length n ∧ T = keptT (D.take j) ∧ none ∉ D.take j ∧ Terms wr g n lt T ∧ Below B w wr ∧ DBox wr B false false none 0 0 0)
    (fun _ _ ix _ => n - (intOf ix).toNat)
  case atStart => exact ⟨0, [], _, Nat.zero_le _, rfl, rfl, rfl, by simp, ⟨hdb, by simp, Nat.zero_le _, fun i hi => absurd hi (Nat.not_lt_zero _)⟩, hE, hbx⟩
  case round =>
    obtain ⟨j, T, lt, hj, rfl, rfl, hTk, hno, hterm, hE, hbr⟩ := hrel
    have hgl := hterm.db.lt
    have hTl : T.length ≤ j := by
      rw [hTk]
      refine Nat.le_trans (keptT_len _) ?_
      rw [List.length_take]; omega
    by_cases hlt : j < n
    · have h := HH.out.below (HEX.out _ hE)
      obtain ⟨b, off, bb, nb, bo, m, cb, ee, rfl, c0, c1, c2, c3, hdg⟩ := h.at j hlt
      have hnext := mem_take_succ (D := D) (j := j) (by rw [HDL.out]; exact hlt)
      obtain ⟨d, hd⟩ : ∃ d, D.getD j none = d := ⟨_, rfl⟩
      rw [hd] at hdg hnext
      have HNX := Lib.hid hnext
      have HTK := Lib.hid hTk
      have HNO := Lib.hid hno
      clear hnext hTk hno hd h
      have e4 : off + j * 4 = off + 4 * j := by omega
      have hw9 := hbr.lt
      go_wp2_with fail
      obtain ⟨V, hV, hVB, hvx, hvz⟩ := dbox_new wr bb nb bo m cb ee
      rw [← hV]
      clear hV
      obtain ⟨hEV, hEV'⟩ := bnext hE (by omega) hVB
      have hdg := hdg.ext hVB
      have hterm := hterm.below hVB
      have hbr := hbr.below hVB
      clear c0 c1 c2 c3 hE
      clear hVB
      generalize wr.heap.size = C at *
      refine (dnormal_any _ _ _ hdg (HT.out.below (HEX.out _ hEV))).mono ?_
      rintro e w2 ⟨r, rfl, hr, hw2⟩
      obtain ⟨rb, rn, ro, rk, rc, re, rfl⟩ := hr.parts
      have bx := hvx.below hw2
      have hterm := hterm.below hw2
      have hbr := hbr.below hw2
      obtain ⟨hE2, hE2'⟩ := bnext hEV hEV' hw2
      have hCs := bx.lt
      clear hvx hEV hEV' hdg hvz hw2
      have f0 := bx.f 0
      have f1 := bx.f 1
      have f2 := bx.f 2
      have f3 := bx.f 3
      have k0 := bx.c0
      have k1 := bx.c1
      have k2 := bx.c2
      have k3 := bx.c3
      go_upto_region 6 with fail
      have ho := only_set4 w2 C (.bool rb) (.bool rn) (.slice ro rk rc) (.int .i64 re)
      have hr := hr.only_dbox bx ho
      have hterm := hterm.only_dbox bx ho (by omega)
      have bx := bx.stored rb rn ro rk rc re
      have hbr := hbr.only ho (by omega)
      have hE3 := hE2.trans (ho.below (B := B) (by omega))
      have hz2 := ho.size
      clear f0 f1 f2 f3 k0 k1 k2 k3 hE2 ho
      generalize (((w2.setCell ⟨C, 0, none⟩ (.bool rb)).setCell ⟨C, 1, none⟩ (.bool rn)).setCell ⟨C, 2, none⟩ (.slice ro rk rc)).setCell ⟨C, 3, none⟩ (.int .i64 re) = w3 at *
      have hE3' : B ≤ w3.heap.size := by omega
      obtain ⟨g1, g2, g3⟩ := hr.get
      have k0 := bx.c0
      have k1 := bx.c1
      have k2 := bx.c2
      have k3 := bx.c3
      cases d with
      | none =>
        obtain rfl : rb = true := g1
        have hdt : dtotal D = none := by
          unfold dtotal
          rw [if_pos]
          have := HNX.out
          have hm : none ∈ D.take (j + 1) := by rw [this]; simp
          exact List.mem_of_mem_take hm
        have HDT := Lib.hid hdt; clear hdt
        go_wp2_with fail
        refine (bad_any _).mono ?_
        rintro e w4 ⟨rfl, hw4⟩
        have bx := hbr.below hw4
        obtain ⟨hE4, hE4'⟩ := bnext hE3 hE3' hw4
        clear k0 k1 k2 k3 hbr
        have q0 := bx.c0
        have q1 := bx.c1
        have q2 := bx.c2
        have q3 := bx.c3
        have f0 := bx.f 0
        have f1 := bx.f 1
        have f2 := bx.f 2
        have f3 := bx.f 3
        have hres := dn_stored bx (dn_bad w4) w hE4 (Nat.le_refl B)
        have z3 := bx.stored true false none 0 0 0
        have z0 := z3.c0
        have z1 := z3.c1
        have z2 := z3.c2
        have z4 := z3.c3
        have HRES := Lib.hid hres; clear hres z3
        go_wp2
        refine bodyPost_ret (v := .agg #[.bool true, .bool false, .slice none 0 0, .int .i64 0]) (by simp [results, Tryz.results147, go_sem, z0, z1, z2, z4]) rfl ⟨_, rfl, ?_, ?_⟩
        · rw [HDT.out]; exact HRES.out.1
        · show Below _ _ _; rw [HBe.out]; exact HRES.out.2
      | some q =>
        obtain ⟨qm, qe⟩ := q
        obtain rfl : rb = false := g1
        obtain rfl : re = qe := g2
        have g3 : Bn w3 rn ro rk rc qm := g3
        have hndq := hr.1
        have hbq := (nd_blen hndq).1
        have hgq := bn_bg_of g3 (by simp only [dm, Option.getD_some] at hbq; omega)
        have hno' : none ∉ D.take (j + 1) := by
          rw [HNX.out]; simp; exact HNO.out
        have HNO2 := Lib.hid hno'
        have hkt : keptT (D.take (j + 1)) = T ++ keptT [some (qm, re)] := by rw [HNX.out, keptT_append, ← HTK.out]
        have HKT := Lib.hid hkt
        clear hno' hkt hbq
        by_cases h0 : qm = 0
        · have hs0 : sgn3 qm 0 = 0 := by simp [sgn3, h0]
          have H0 := Lib.hid h0; clear h0
          go_wp2_with fail
          refine (sign_any _ _ _ _ _ _ hgq).mono ?_
          rintro e w4 ⟨rfl, hw4⟩
          rw [hs0]
          obtain ⟨hE4, hE4'⟩ := bnext hE3 hE3' hw4
          have hterm := hterm.below hw4
          have hbr := hbr.below hw4
          go_wp2
          go_roundw
          case rel => exact ⟨j + 1, T, lt, by omega, by go_num, rfl, by rw [HKT.out, H0.out]; simp [keptT], HNO2.out, hterm, hE4, hbr⟩
          case measure => simp [intOf] <;> omega
        · have hs0 : (sgn3 qm 0 != 0) = true := by
            have : sgn3 qm 0 ≠ 0 := fun h => h0 (sgn3_zero h)
            simpa using this
          have H0 := Lib.hid h0; clear h0
          go_wp2_with fail
          refine (sign_any _ _ _ _ _ _ hgq).mono ?_
          rintro e w4 ⟨rfl, hw4⟩
          obtain ⟨hE4, hE4'⟩ := bnext hE3 hE3' hw4
          have hterm := hterm.below hw4
          have hbr := hbr.below hw4
          have bx := bx.below hw4
          have hr := hr.ext hw4
          clear k0 k1 k2 k3 g3 hgq hE3 hw4
          have k0 := bx.c0
          have k1 := bx.c1
          have k2 := bx.c2
          have k3 := bx.c3
          obtain ⟨V, hV, hVB, hvx, hvz⟩ := dbox_new w4 false rn ro rk rc re
          obtain ⟨hEV, hEV'⟩ := bnext hE4 hE4' hVB
          have htermV := hterm.below hVB
          have hbrV := hbr.below hVB
          have hrV := hr.ext hVB
          have hCV : DB V w4.heap.size [⟨false, rn, ro, rk, rc, re⟩] := hvx
          have hdbV := htermV.db
          have hlenV := htermV.len
          rw [hV] at hCV hdbV
          have HV := Lib.hid hV
          clear hV hVB hvx hvz
          go_wp2_with (at_builtin; refine wpList_append_dyad _ rfl (.tmp 24) (.tmp 26) rfl g T.length n 1 lt ⟨false, rn, ro, rk, rc, re⟩ rfl hdbV hlenV (by omega) w4.heap.size rfl hCV ?_)
          rw [← HV.out]
          have hpush := htermV.push (p := ⟨false, rn, ro, rk, rc, re⟩) (t := (qm, re)) hrV (by omega)
          have ho := only_set4' V g (4 * T.length) ⟨false, rn, ro, rk, rc, re⟩
          have hE5 := hEV.trans (ho.below (B := B) (by omega))
          have hbr5 := hbrV.only ho (by omega)
          have HKT2 : keptT (D.take (j + 1)) = T ++ [(qm, re)] := by rw [HKT.out]; simp [keptT, H0.out]
          have HKT2 := Lib.hid HKT2
          go_wp2
          go_roundw
          case rel => exact ⟨j + 1, T ++ [(qm, re)], _, by omega, by go_num, by simp, HKT2.out.symm, HNO2.out, hpush, hE5, hbr5⟩
          case measure => simp [intOf] <;> omega
    · obtain rfl : j = n := by omega
      have hlt0 : D.take j = D := List.take_of_length_le (by rw [HDL.out]; exact Nat.le_refl _)
      rw [hlt0] at hTk hno
      have hts := scs_kept hno
      rw [← hTk] at hts
      have hdt : dtotal D = dmk (scs (T.map some)) (-65536) := by unfold dtotal; rw [if_neg hno, hts]
      have HDT := Lib.hid hdt
      have hdsl : DSl wr (some ⟨g, 0, none⟩) T.length j (lt.take T.length) (T.map some) := hterm.db.sl (by rw [hterm.len]; exact hterm.fit) (by simp) hterm.fit (fun i hi => by
        have := (hterm.dn i hi).dg
        have e : (T.map some).getD i none = some (T.getD i (0, 0)) := by simp [List.getD, hi]
        rw [e]; exact this)
      have hok : ∀ t ∈ T, TermOk t := by rw [hTk]; exact keptT_ok HND.out
      have hdn : ∀ i, i < T.length → Dn wr ((lt.take T.length).getD i DP.zero).v ((T.map some).getD i none) := fun i hi => by
        have e : (T.map some).getD i none = some (T.getD i (0, 0)) := by simp [List.getD, hi]
        have e2 : (lt.take T.length).getD i DP.zero = lt.getD i DP.zero := by simp [List.getD, hi]
        rw [e, e2]; exact hterm.dn i hi
      have C := Lib.hid (total_any _ _ _ _ _ _ wr hdsl rfl hok hdn (HT.out.below (HEX.out _ hE)) (by omega))
      have hz9 := hbr.lt
      clear hdsl hok hdn hdt hts hno hTk hlt0 hlt
      go_wp2_with fail
      refine C.out.mono ?_
      rintro e w4 ⟨v, rfl, hv, hw4⟩
      rw [← HDT.out] at hv
      obtain ⟨rb, rn, ro2, rk, rc, re, rfl⟩ := hv.parts
      have bx := hbr.below hw4
      obtain ⟨hE4, hE4'⟩ := bnext hE (by omega) hw4
      clear hbr hE hw4 hterm
      have q0 := bx.c0
      have q1 := bx.c1
      have q2 := bx.c2
      have q3 := bx.c3
      have f0 := bx.f 0
      have f1 := bx.f 1
      have f2 := bx.f 2
      have f3 := bx.f 3
      have hres := dn_stored bx hv w hE4 (Nat.le_refl B)
      have z3 := bx.stored rb rn ro2 rk rc re
      have z0 := z3.c0
      have z1 := z3.c1
      have z2 := z3.c2
      have z4 := z3.c3
      have HRES := Lib.hid hres; clear hres z3
      go_wp2
      refine bodyPost_ret (v := .agg #[.bool rb, .bool rn, .slice ro2 rk rc, .int .i64 re]) (by simp [results, Tryz.results147, go_sem, z0, z1, z2, z4]) rfl ⟨_, rfl, ?_, ?_⟩
      · exact HRES.out.1
      · show Below _ _ _; rw [HBe.out]; exact HRES.out.2
end Go.Proofs.YtjohpdobnedilaaGreatDoor
