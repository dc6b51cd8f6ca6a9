import Derived.Lib.ItoaNum
import Derived.Test.YtlpclahlolhjfaaDoorMoPlU4
import Derived.Test.YtlpclahlolhjfaaDoorMoPlU3
import Derived.Laws.AppendOwn
import Derived.OwnWalk
namespace Go.Proofs.YtlpclahlolhjfaaDoor
open Go.Lib
theorem dec_small {u : Nat} (h : u < 10) : decDigits u = [UInt8.ofNat (48 + u)] := by rw [decDigits, dif_pos h]
theorem dec_big {u : Nat} (h : ¬ u < 10) : decDigits u = decDigits (u / 10) ++ [UInt8.ofNat (48 + u % 10)] := by rw [decDigits, dif_neg h]
/-- exactly k digits, with zeros ahead -/
def padD : Nat → Nat → List UInt8
  | 0, _ => []
  | k + 1, r => padD k (r / 10) ++ [UInt8.ofNat (48 + r % 10)]
theorem padD_succ (k r : Nat) : padD (k + 1) r = padD k (r / 10) ++ [UInt8.ofNat (48 + r % 10)] := rfl
theorem padD_length (k r : Nat) : (padD k r).length = k := by
  induction k generalizing r with
  | zero => rfl
  | succ k ih => rw [padD_succ, List.length_append, ih]; rfl
/-- digits in two parts -/
theorem dec_split (k : Nat) {q r : Nat} (hq : 0 < q) (hr : r < 10 ^ k) : decDigits (q * 10 ^ k + r) = decDigits q ++ padD k r := by
  induction k generalizing r with
  | zero =>
    rw [Nat.pow_zero] at hr
    obtain rfl : r = 0 := by omega
    simp [padD]
  | succ k ih =>
    rw [Nat.pow_succ] at hr ⊢
    have e : q * (10 ^ k * 10) = q * 10 ^ k * 10 := (Nat.mul_assoc _ _ _).symm
    have hp : 1 ≤ q * 10 ^ k := Nat.mul_le_mul hq (Nat.one_le_pow _ _ (by omega))
    rw [e, dec_big (by omega), show (q * 10 ^ k * 10 + r) / 10 = q * 10 ^ k + r / 10 by omega, show (q * 10 ^ k * 10 + r) % 10 = r % 10 by omega, ih (by omega)]
    rw [padD_succ, List.append_assoc]
theorem padD_zero (k : Nat) : padD k 0 = List.replicate k 48 := by
  induction k with
  | zero => rfl
  | succ k ih => rw [padD_succ, Nat.zero_div, ih, List.replicate_succ']; rfl
/-- zeros ahead of the digits -/
theorem padD_dec (k r : Nat) (hk : 0 < k) (hr : r < 10 ^ k) : padD k r = List.replicate (k - (decDigits r).length) 48 ++ decDigits r := by
  induction k generalizing r with
  | zero => omega
  | succ k ih =>
    rw [padD_succ]
    by_cases h : r < 10
    · rw [dec_small h, show r / 10 = 0 by omega, show r % 10 = r by omega, padD_zero]; simp
    · rw [dec_big h]
      rcases Nat.eq_zero_or_pos k with rfl | hk
      · simp at hr; omega
      · rw [Nat.pow_succ] at hr
        rw [ih (r / 10) hk (by omega), List.length_append, List.append_assoc]; simp [Nat.add_sub_add_right]
/-- the digits of groups, the lowest first -/
def grpV (B : Nat) : List Nat → Nat
  | [] => 0
  | x :: l => x + B * grpV B l
theorem dec_groups (l : List Nat) (t : Nat) (ht : 0 < t) (hl : ∀ x ∈ l, x < 10 ^ 9) : decDigits (grpV (10 ^ 9) (l ++ [t])) = decDigits t ++ (l.reverse.flatMap (padD 9)) := by
  induction l generalizing t with
  | nil => simp [grpV]
  | cons x l ih =>
    show decDigits (x + 10 ^ 9 * grpV (10 ^ 9) (l ++ [t])) = _
    have hpos : 0 < grpV (10 ^ 9) (l ++ [t]) := by
      clear ih hl
      induction l with
      | nil => show 0 < t + 10 ^ 9 * 0; omega
      | cons y l ih => show 0 < y + 10 ^ 9 * grpV _ (l ++ [t]); have := ih; omega
    rw [show x + 10 ^ 9 * grpV (10 ^ 9) (l ++ [t]) = grpV (10 ^ 9) (l ++ [t]) * 10 ^ 9 + x by rw [Nat.mul_comm, Nat.add_comm], dec_split 9 hpos (hl x (by simp)), ih t ht (fun y hy => hl y (by simp [hy])), List.reverse_cons, List.flatMap_append, List.append_assoc]
    simp
/-- k limbs of L M + g are made in place; c is what is carried -/
structure MulAdd (L : List Int) (M g : Int) (k : Nat) (L' : List Int) (c : Int) : Prop where
  len : L'.length = L.length
  wf : Wf L'
  c0 : 0 ≤ c
  c1 : c ≤ M
  eq : num (L'.take k) + 4294967296 ^ k * c = num (L.take k) * M + g
  rest : L'.drop k = L.drop k
theorem MulAdd.start {L : List Int} {M g : Int} (h : Wf L) (g0 : 0 ≤ g) (g1 : g ≤ M) : MulAdd L M g 0 L g := ⟨rfl, h, g0, g1, by simp [num], rfl⟩
theorem MulAdd.at {L L' : List Int} {M g c : Int} {k : Nat} (h : MulAdd L M g k L' c) : L'.getD k 0 = L.getD k 0 := by
  have h1 : (L'.drop k).getD 0 0 = (L.drop k).getD 0 0 := by rw [h.rest]
  simpa [List.getD, List.getElem?_drop] using h1
theorem MulAdd.step {L L' : List Int} {M g c x : Int} {k : Nat} (h : MulAdd L M g k L' c) (hM : 0 ≤ M) (hw : Wf L) (hk : k < L.length) (hx : L.getD k 0 = x) : MulAdd L M g (k + 1) (L'.set k ((c + x * M) % 4294967296)) ((c + x * M) / 4294967296) := by
  have hxr := hw.getD k
  rw [hx] at hxr
  obtain ⟨x0, x1⟩ := hxr
  have hs : 0 ≤ c + x * M := Int.add_nonneg h.c0 (Int.mul_nonneg x0 hM)
  have hs1 : c + x * M ≤ 4294967295 * M + M := Int.add_comm c _ ▸ Int.add_le_add (Int.mul_le_mul_of_nonneg_right (by omega) hM) h.c1
  have hkl : k < L'.length := by rw [h.len]; exact hk
  refine ⟨by rw [List.length_set]; exact h.len, h.wf.set _ ⟨Int.emod_nonneg _ (by omega), Int.emod_lt_of_pos _ (by omega)⟩, Int.ediv_nonneg hs (by omega), by omega, ?_, ?_⟩
  · rw [num_take_set _ _ _ hkl, num_take_next, hx, Int.pow_succ]
    have e := Int.mul_ediv_add_emod (c + x * M) 4294967296
    have h1 := h.eq
    generalize (c + x * M) / 4294967296 = q at *
    generalize (c + x * M) % 4294967296 = r at *
    rw [Int.mul_assoc, Int.add_assoc, ← Int.mul_add, show r + 4294967296 * q = c + x * M by omega, Int.mul_add, Int.add_mul, Int.mul_assoc]
    omega
  · rw [List.drop_set_of_lt (by omega), ← List.drop_drop, h.rest, List.drop_drop]
theorem MulAdd.all {L L' : List Int} {M g c : Int} (h : MulAdd L M g L.length L' c) : num L' + 4294967296 ^ L.length * c = num L * M + g := by
  have h1 := h.eq
  rw [List.take_of_length_le (by rw [h.len]; exact Nat.le_refl _), List.take_of_length_le (Nat.le_refl _)] at h1
  exact h1
/-- the digits of v in the base 10^9, 2^K of them, the lowest first -/
def digs : Nat → Nat → List Nat
  | 0, v => [v]
  | K + 1, v => digs K (v % 1000000000 ^ (2 ^ K)) ++ digs K (v / 1000000000 ^ (2 ^ K))
theorem digs_zero_len (K v : Nat) : (digs K v).length = 2 ^ K := by
  induction K generalizing v with
  | zero => rfl
  | succ K ih => show (digs K _ ++ digs K _).length = _; rw [List.length_append, ih, ih, Nat.pow_succ]; omega
theorem digs_null (K : Nat) : digs K 0 = List.replicate (2 ^ K) 0 := by
  induction K with
  | zero => rfl
  | succ K ih =>
    show digs K _ ++ digs K _ = _
    rw [Nat.zero_mod, Nat.zero_div, ih, List.replicate_append_replicate, Nat.pow_succ]; congr 1; omega
theorem grpV_append (B : Nat) (a b : List Nat) : grpV B (a ++ b) = grpV B a + B ^ a.length * grpV B b := by
  induction a with
  | nil => simp [grpV]
  | cons x a ih =>
    show x + B * grpV B (a ++ b) = x + B * grpV B a + B ^ (a.length + 1) * grpV B b
    rw [ih, Nat.mul_add, Nat.pow_succ, Nat.mul_comm (B ^ a.length) B, Nat.mul_assoc, Nat.add_assoc]
theorem digs_val (K v : Nat) : grpV 1000000000 (digs K v) = v := by
  induction K generalizing v with
  | zero => show v + 1000000000 * 0 = v; omega
  | succ K ih =>
    show grpV _ (digs K _ ++ digs K _) = v
    rw [grpV_append, ih, ih, digs_zero_len]
    have := Nat.div_add_mod v (1000000000 ^ 2 ^ K)
    omega
theorem digs_lt (K v : Nat) (h : v < 1000000000 ^ (2 ^ K)) : ∀ x ∈ digs K v, x < 1000000000 := by
  induction K generalizing v with
  | zero => intro x hx; rw [show digs 0 v = [v] from rfl, List.mem_singleton] at hx; rw [hx]; simpa using h
  | succ K ih =>
    intro x hx
    have hp : 0 < 1000000000 ^ 2 ^ K := Nat.pow_pos (by omega)
    rcases List.mem_append.1 (show x ∈ digs K _ ++ digs K _ from hx) with hx | hx
    · exact ih _ (Nat.mod_lt _ hp) x hx
    · refine ih _ ?_ x hx
      rw [Nat.div_lt_iff_lt_mul hp, ← Nat.pow_add]
      rw [show 2 ^ (K + 1) = 2 ^ K + 2 ^ K by rw [Nat.pow_succ]; omega] at h
      exact h
/-- a window of a list is exchanged -/
def putW (L : List Int) (o : Nat) (D : List Int) : List Int := L.take o ++ (D ++ L.drop (o + D.length))
theorem putW_len {L D : List Int} {o : Nat} (h : o + D.length ≤ L.length) : (putW L o D).length = L.length := by
  unfold putW; simp; omega
theorem putW_drop {L D : List Int} {o : Nat} (h : o + D.length ≤ L.length) : (putW L o D).drop (o + D.length) = L.drop (o + D.length) := by
  unfold putW
  rw [← List.append_assoc, List.drop_left' (by simp; omega)]
theorem putW_take {L D : List Int} {o : Nat} (h : o + D.length ≤ L.length) : (putW L o D).take (o + D.length) = L.take o ++ D := by
  unfold putW
  rw [← List.append_assoc, List.take_left' (by simp; omega)]
theorem putW_two {L D E : List Int} {o : Nat} (h : o + D.length + E.length ≤ L.length) : putW (putW L o D) (o + D.length) E = putW L o (D ++ E) := by
  have h1 := putW_take (L := L) (D := D) (o := o) (by omega)
  have h2 := putW_drop (L := L) (D := D) (o := o) (by omega)
  have h3 : (putW L o D).drop (o + D.length + E.length) = L.drop (o + D.length + E.length) := by
    rw [← List.drop_drop, h2, List.drop_drop]
  show (putW L o D).take (o + D.length) ++ (E ++ (putW L o D).drop (o + D.length + E.length)) = L.take o ++ ((D ++ E) ++ L.drop (o + (D ++ E).length))
  rw [h1, h3, List.length_append, List.append_assoc, List.append_assoc, Nat.add_assoc]
theorem putW_same {L : List Int} {o n : Nat} (h : (L.drop o).take n = List.replicate n 0) (hn : o + n ≤ L.length) : putW L o (List.replicate n 0) = L := by
  unfold putW
  rw [← h, List.length_take, List.length_drop, Nat.min_eq_left (by omega), ← List.drop_drop, List.take_append_drop, List.take_append_drop]
theorem putW_one {L : List Int} {o : Nat} (x : Int) (h : o < L.length) : putW L o [x] = L.set o x := by
  unfold putW
  rw [List.set_eq_take_append_cons_drop, if_pos h]; rfl
theorem dec_groups9 (l : List Nat) (t : Nat) (ht : 0 < t) (hl : ∀ x ∈ l, x < 1000000000) : Go.Lib.decDigits (grpV 1000000000 (l ++ [t])) = Go.Lib.decDigits t ++ (l.reverse.flatMap (padD 9)) := dec_groups l t ht hl
end Go.Proofs.YtlpclahlolhjfaaDoor
