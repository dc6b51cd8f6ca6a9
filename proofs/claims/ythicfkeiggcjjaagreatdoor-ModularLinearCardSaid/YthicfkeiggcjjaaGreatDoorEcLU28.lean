import Derived.Test.YthicfkeiggcjjaaGreatDoorEcLU16
import Derived.Test.YthicfkeiggcjjaaGreatDoorEcLU23
import Derived.Test.YthicfkeiggcjjaaGreatDoorEcLU24
import Derived.Test.YthicfkeiggcjjaaGreatDoorEcLU27
import Derived.Test.YthicfkeiggcjjaaGreatDoorEcLU22
import Derived.Deep.CutRange
namespace Go.Proofs.YthicfkeiggcjjaaGreatDoor

theorem prime_dvd {p d : Nat} (h : noDiv p 2) (hp : 2 ≤ p) (hd : d ∣ p) : d = 1 ∨ d = p := by
  obtain ⟨c, hc⟩ := hd
  have hd0 : d ≠ 0 := by rintro rfl; omega
  have hc0 : c ≠ 0 := by rintro rfl; omega
  by_cases h1 : d = 1
  · exact Or.inl h1
  · by_cases h2 : c = 1
    · subst h2; right; omega
    · exfalso
      rcases Nat.le_total d c with h3 | h3
      · exact h d (by omega) (by rw [hc]; exact Nat.mul_le_mul_left _ h3) (Nat.mod_eq_zero_of_dvd ⟨c, hc⟩)
      · exact h c (by omega) (by rw [hc]; exact Nat.mul_le_mul_right _ h3) (Nat.mod_eq_zero_of_dvd ⟨d, by rw [Nat.mul_comm]; exact hc⟩)
theorem prime_cop {p v : Nat} (h : noDiv p 2) (hp : 2 ≤ p) (h0 : 0 < v) (hv : v < p) : Nat.gcd v p = 1 := by
  rcases prime_dvd h hp (Nat.gcd_dvd_right v p) with h1 | h1
  · exact h1
  · exfalso
    have := Nat.gcd_le_left p h0
    omega
theorem prod_ne {p a b : Nat} (h : noDiv p 2) (hp : 2 ≤ p) (ha : 0 < a) (hap : a < p) (hb : 0 < b) (hbp : b < p) : a * b % p ≠ 0 := by
  intro hz
  have h1 : p ∣ a * b := Nat.dvd_of_mod_eq_zero hz
  have h2 : Nat.Coprime p a := by show Nat.gcd p a = 1; rw [Nat.gcd_comm]; exact prime_cop h hp ha hap
  have h3 : p ∣ b := Nat.Coprime.dvd_of_dvd_mul_left h2 h1
  have := Nat.le_of_dvd hb h3
  omega
theorem prod_neZ {p a b : Int} (h : noDiv p.toNat 2) (hp : 2 ≤ p) (ha : 0 < a) (hap : a < p) (hb : 0 < b) (hbp : b < p) : 0 < a * b % p := by
  obtain ⟨q, rfl⟩ := Int.eq_ofNat_of_zero_le (show 0 ≤ p by omega)
  obtain ⟨x, rfl⟩ := Int.eq_ofNat_of_zero_le (show 0 ≤ a by omega)
  obtain ⟨y, rfl⟩ := Int.eq_ofNat_of_zero_le (show 0 ≤ b by omega)
  have := prod_ne (p := q) (a := x) (b := y) h (by omega) (by omega) (by omega) (by omega) (by omega)
  rw [← Int.natCast_mul, ← Int.natCast_emod]
  omega
theorem neg_ne {p f : Int} (_hp : 2 ≤ p) (h0 : 0 < f) (h1 : f < p) : 0 < -f % p ∧ -f % p < p := by
  have e : -f % p = p - f := by
    have : -f = (p - f) + p * (-1) := by omega
    rw [this, Int.add_mul_emod_self_left]
    exact Int.emod_eq_of_lt (by omega) (by omega)
  omega
end Go.Proofs.YthicfkeiggcjjaaGreatDoor

namespace Go.Proofs.YthicfkeiggcjjaaGreatDoor
open Go Go.RowKit

theorem elim_same (p a f b : Int) : (a - f * b % p) % p = (a + (p - f) * b) % p := by
  have h1 : (a - f * b % p) % p = (a - f * b) % p := by
    rw [Int.sub_emod, Int.emod_emod, ← Int.sub_emod]
  have h2 : a + (p - f) * b = (a - f * b) + p * b := by
    rw [Int.sub_mul]; omega
  rw [h1, h2, Int.add_mul_emod_self_left]
/-- one row of the reference less a multiple of the pivot's -/
def elimRowR (p : Int) (col : Nat) (piv row : List Int) : List Int := (List.range row.length).map fun x => (row.getD x 0 - row.getD col 0 * piv.getD x 0 % p) % p
theorem elimR_same {p : Int} {col : Nat} {piv row : List Int} (hr : ∀ x, x < row.length → 0 ≤ row.getD x 0 ∧ row.getD x 0 < p) : elimRowR p col piv row = elimRow p col piv row := by
  unfold elimRowR elimRow
  by_cases h : row.getD col 0 = 0
  · rw [if_pos h]
    refine list_same 0 (by simp) fun x hx => ?_
    have hx' : x < row.length := by simpa using hx
    have e : ((List.range row.length).map fun x => (row.getD x 0 - row.getD col 0 * piv.getD x 0 % p) % p).getD x 0 = (row.getD x 0 - row.getD col 0 * piv.getD x 0 % p) % p := by
      simp [List.getD, hx']
    rw [e, h, Int.zero_mul, Int.zero_emod, Int.sub_zero]
    exact Int.emod_eq_of_lt (hr x hx').1 (hr x hx').2
  · rw [if_neg h]
    refine List.map_congr_left fun x _ => ?_
    exact elim_same p _ _ _
def clearR (p : Int) (top col : Nat) (M : List (List Int)) : List (List Int) := (List.range M.length).map fun i => if i = top then M.getD i [] else elimRowR p col (M.getD top []) (M.getD i [])
theorem clearR_same {p : Int} {top col : Nat} {M : List (List Int)} (h : Res p M) : clearR p top col M = clearM p top col M := by
  unfold clearR clearM
  refine List.map_congr_left fun i hi => ?_
  have hi' : i < M.length := by simpa using hi
  by_cases ht : i = top
  · rw [if_pos ht, if_pos ht]
  · rw [if_neg ht, if_neg ht, elimR_same fun x hx => h.at hi' hx]
/-- the reference's step: a determinant of 0 once a column has no pivot -/
def stepR (p : Int) (col : Nat) (S : Ech) : Ech :=
  let R := findR S.M col (S.M.length - S.L.length) S.L.length
  if R = S.M.length then ⟨S.M, S.L, 0⟩
  else ⟨clearR p S.L.length col (scaleM p S.L.length col (swapL S.M S.L.length R [])), S.L ++ [(col : Int)], (if R = S.L.length then S.f else -S.f % p) * ((swapL S.M S.L.length R []).getD S.L.length []).getD col 0 % p⟩
def reduceR (p : Int) : Nat → Nat → Ech → Ech
  | 0, _, S => S
  | k + 1, col, S => reduceR p k (col + 1) (stepR p col S)
/-- the reference's state beside the program's -/
structure Beside (col : Nat) (S T : Ech) : Prop where
  M : T.M = S.M
  L : T.L = S.L
  le : S.L.length ≤ col
  f : T.f = if S.L.length = col then S.f else 0
theorem findR_bounds (M : List (List Int)) (col : Nat) : ∀ f r, r ≤ findR M col f r ∧ findR M col f r ≤ r + f
  | 0, r => ⟨Nat.le_refl _, Nat.le_refl _⟩
  | f + 1, r => by
    unfold findR
    split
    · have := findR_bounds M col f (r + 1); omega
    · omega
theorem Beside.step {p : Int} {n c col : Nat} {S T : Ech} (hp : 2 ≤ p) (h : Beside col S T) (hok : EOk p n c S) : Beside (col + 1) (stepE p col S) (stepR p col T) := by
  obtain ⟨TM, TL, Tf⟩ := T
  obtain ⟨h1, h2, h3, h4⟩ := h
  simp only at h1 h2 h4
  subst h1 h2
  unfold stepE stepR
  simp only
  obtain ⟨R, hR⟩ : ∃ R, findR S.M col (S.M.length - S.L.length) S.L.length = R := ⟨_, rfl⟩
  rw [hR]
  by_cases hn : R = S.M.length
  · rw [if_pos hn, if_pos hn]
    exact ⟨rfl, rfl, by omega, by rw [if_neg (by omega)]⟩
  · rw [if_neg hn, if_neg hn]
    have hb := findR_bounds S.M col (S.M.length - S.L.length) S.L.length
    rw [hR] at hb
    have hl := hok.len
    have hpl := hok.pl
    have hnp : S.L.length < n := by omega
    obtain ⟨a1, a2, a3⟩ := EOk.swap hok.len hok.row hok.res hnp (show R < n by omega)
    have b3 : Res p (scaleM p S.L.length col (swapL S.M S.L.length R [])) := by
      generalize swapL S.M S.L.length R [] = M1 at *
      refine res_get fun i hi x hx => ?_
      have hi' : i < n := by unfold scaleM at hi; rw [List.length_set, a1] at hi; exact hi
      rw [scale_at (by omega)] at hx ⊢
      split at hx
      · rename_i he
        rw [if_pos he]
        have hx' : x < (M1[S.L.length]?.getD []).length := by simpa [scaleRow, List.getD] using hx
        have e : (scaleRow p (invZ ((M1.getD S.L.length []).getD col 0) p) (M1.getD S.L.length [])).getD x 0 = (M1.getD S.L.length []).getD x 0 * invZ ((M1.getD S.L.length []).getD col 0) p % p := by
          simp [scaleRow, List.getD, hx']
        rw [e]
        exact ⟨Int.emod_nonneg _ (by omega), Int.emod_lt_of_pos _ (by omega)⟩
      · rename_i he
        rw [if_neg he]
        exact a3.at (by omega) hx
    refine ⟨clearR_same b3, rfl, by simp only [List.length_append, List.length_singleton]; omega, ?_⟩
    simp only [List.length_append, List.length_singleton]
    by_cases hc : S.L.length = col
    · rw [if_pos hc] at h4
      rw [if_pos (show S.L.length + 1 = col + 1 by omega), h4]
    · rw [if_neg hc] at h4
      rw [if_neg (show ¬ S.L.length + 1 = col + 1 by omega), h4]
      split <;> simp
theorem Beside.reduce {p : Int} {n c : Nat} (hp : 2 ≤ p) : ∀ (k col : Nat) (S T : Ech), Beside col S T → EOk p n c S → Beside (col + k) (reduceE p k col S) (reduceR p k col T)
  | 0, _, _, _, h, _ => h
  | k + 1, col, S, T, h, hok => by
    have := Beside.reduce hp k (col + 1) _ _ (h.step (c := c) hp hok) (hok.step hp)
    rw [show col + (k + 1) = col + 1 + k by omega]
    exact this
theorem findR_ne (M : List (List Int)) (col : Nat) : ∀ f r, findR M col f r < r + f → ¬ (M.getD (findR M col f r) []).getD col 0 = 0
  | 0, r, h => by unfold findR at h; omega
  | f + 1, r, h => by
    by_cases h0 : (M.getD r []).getD col 0 = 0
    · rw [findR_go h0] at h ⊢
      exact findR_ne M col f (r + 1) (by omega)
    · rw [findR_at h0]
      exact h0
theorem swI_at (i j : Nat) : swI i j i = j := by
  unfold swI
  by_cases h : i = j
  · rw [if_pos h]; exact h
  · rw [if_neg h, if_pos rfl]
/-- modulo a prime the factor stays a residue that is not zero -/
theorem step_pos {p : Int} {n c col : Nat} {S : Ech} (hprime : noDiv p.toNat 2) (hp : 2 ≤ p) (hok : EOk p n c S) (hcol : col < c) (hf : 0 < S.f) : 0 < (stepE p col S).f := by
  unfold stepE
  simp only
  obtain ⟨R, hR⟩ : ∃ R, findR S.M col (S.M.length - S.L.length) S.L.length = R := ⟨_, rfl⟩
  rw [hR]
  by_cases hn : R = S.M.length
  · rw [if_pos hn]; exact hf
  · rw [if_neg hn]
    have hb := findR_bounds S.M col (S.M.length - S.L.length) S.L.length
    rw [hR] at hb
    have hl := hok.len
    have hpl := hok.pl
    have hne := findR_ne S.M col (S.M.length - S.L.length) S.L.length (by rw [hR]; omega)
    rw [hR] at hne
    have hv : ((swapL S.M S.L.length R []).getD S.L.length []).getD col 0 = (S.M.getD R []).getD col 0 := by
      rw [swap_get [] (by omega) (by omega), swI_at]
    rw [hv]
    have hr := hok.res.at (i := R) (j := col) (by omega) (by rw [hok.row R (by omega)]; exact hcol)
    have h1 : 0 < (if R = S.L.length then S.f else -S.f % p) ∧ (if R = S.L.length then S.f else -S.f % p) < p := by
      split
      · exact ⟨hf, hok.f.2⟩
      · exact neg_ne hp hf hok.f.2
    exact prod_neZ hprime hp h1.1 h1.2 (by omega) hr.2
theorem reduce_pos {p : Int} {n c : Nat} (hprime : noDiv p.toNat 2) (hp : 2 ≤ p) : ∀ (k col : Nat) (S : Ech), EOk p n c S → col + k ≤ c → 0 < S.f → 0 < (reduceE p k col S).f
  | 0, _, _, _, _, h => h
  | k + 1, col, S, hok, hc, h => reduce_pos hprime hp k (col + 1) _ (hok.step hp) (by omega) (step_pos hprime hp hok (by omega) h)
end Go.Proofs.YthicfkeiggcjjaaGreatDoor

namespace Go.Proofs.YthicfkeiggcjjaaGreatDoor
open Go Go.RowKit

theorem stepR_none {p : Int} {col : Nat} {S : Ech} (h : findR S.M col (S.M.length - S.L.length) S.L.length = S.M.length) : stepR p col S = ⟨S.M, S.L, 0⟩ := by
  unfold stepR; simp only; rw [if_pos h]
theorem stepR_some {p : Int} {col R : Nat} {S : Ech} (hR : findR S.M col (S.M.length - S.L.length) S.L.length = R) (h : ¬ R = S.M.length) : stepR p col S = ⟨clearR p S.L.length col (scaleM p S.L.length col (swapL S.M S.L.length R [])), S.L ++ [(col : Int)], (if R = S.L.length then S.f else -S.f % p) * ((swapL S.M S.L.length R []).getD S.L.length []).getD col 0 % p⟩ := by
  unfold stepR; simp only; rw [hR, if_neg h]
theorem find_lt {p : Int} {n c col R : Nat} {S : Ech} (hok : EOk p n c S) (hR : findR S.M col (S.M.length - S.L.length) S.L.length = R) : S.L.length ≤ R ∧ R ≤ n := by
  have hb := findR_bounds S.M col (S.M.length - S.L.length) S.L.length
  rw [hR] at hb
  have := hok.len
  have := hok.pl
  omega
theorem stepR_E {p : Int} {n c col R : Nat} {S : Ech} (hp : 2 ≤ p) (hok : EOk p n c S) (hR : findR S.M col (S.M.length - S.L.length) S.L.length = R) (h : ¬ R = S.M.length) : stepR p col S = stepE p col S := by
  rw [stepR_some hR h, step_some hR h]
  have hl := hok.len
  have hb := find_lt hok hR
  obtain ⟨a1, a2, a3⟩ := EOk.swap hok.len hok.row hok.res (show S.L.length < n by omega) (show R < n by omega)
  obtain ⟨b1, b2, b3⟩ := scale_ok (np := S.L.length) (col := col) hp a1 a2 a3 (show S.L.length < n by omega)
  rw [clearR_same b3]
theorem EOk.stepR {p : Int} {n c col : Nat} {S : Ech} (hp : 2 ≤ p) (h : EOk p n c S) : EOk p n c (stepR p col S) := by
  obtain ⟨R, hR⟩ : ∃ R, findR S.M col (S.M.length - S.L.length) S.L.length = R := ⟨_, rfl⟩
  by_cases hn : R = S.M.length
  · rw [stepR_none (hR.trans hn)]
    exact ⟨h.len, h.row, h.res, h.pl, by simp only; omega⟩
  · rw [stepR_E hp h hR hn]
    exact h.step hp
theorem reduceR_go {p : Int} {C j : Nat} {S : Ech} (h : j < C) : reduceR p (C - j) j S = reduceR p (C - (j + 1)) (j + 1) (stepR p j S) := by
  rw [show C - j = (C - (j + 1)) + 1 by omega]; rfl
theorem EOk.reduceR {p : Int} {n c : Nat} (hp : 2 ≤ p) : ∀ k col (S : Ech), EOk p n c S → EOk p n c (reduceR p k col S)
  | 0, _, _, h => h
  | k + 1, col, _, h => EOk.reduceR hp k (col + 1) _ (h.stepR hp)
/-- an element less a multiple -/
theorem less_step {p a f b : Int} (hp : 2 ≤ p) (hp2 : p ≤ 2147483647) (h1 : 0 ≤ a) (h2 : a < p) (h3 : 0 ≤ f) (h4 : f < p) (h5 : 0 ≤ b) (h6 : b < p) :
    IntKind.i64.wrap (f * b) = f * b ∧ (f * b).tmod p = f * b % p ∧ IntKind.i64.wrap (f * b % p) = f * b % p ∧ IntKind.i64.wrap (a - f * b % p) = a - f * b % p ∧ -2147483647 ≤ a - f * b % p ∧ a - f * b % p ≤ 2147483647 := by
  obtain ⟨e1, e2, e3, e4⟩ := mul_step hp hp2 h3 h4 h5 h6
  exact ⟨e1, e2, IntWalk.i64_in _ (by omega), IntWalk.i64_in _ (by omega), by omega, by omega⟩
theorem swap_comm {α : Type} {l : List α} {i j : Nat} {d : α} (h : ¬ i = j) : swapL l i j d = swapL l j i d := by
  unfold swapL
  rw [List.set_comm _ _ h]
/-- where the rows lie -/
structure RBk (B N n : Nat) (rs : List (Nat × Nat)) : Prop where
  len : rs.length = n
  lo : ∀ i, i < n → B ≤ (rs.getD i (0, 0)).1
  hi : ∀ i, i < n → (rs.getD i (0, 0)).1 < N
theorem RBk.swap {B N n : Nat} {rs : List (Nat × Nat)} (h : RBk B N n rs) {i j : Nat} (hi : i < n) (hj : j < n) : RBk B N n (swapL rs i j (0, 0)) := by
  have hl := h.len
  refine ⟨by rw [swap_len, hl], fun k hk => ?_, fun k hk => ?_⟩
  · rw [swap_get (0, 0) (by omega) (by omega)]; exact h.lo _ (swI_lt hi hj hk)
  · rw [swap_get (0, 0) (by omega) (by omega)]; exact h.hi _ (swI_lt hi hj hk)
end Go.Proofs.YthicfkeiggcjjaaGreatDoor

namespace Go.Proofs.YthicfkeiggcjjaaGreatDoor
open Go Go.RowKit

set_option maxRecDepth 100000 in
set_option maxHeartbeats 16000000 in
theorem refEch_zero (ao : Option Addr) (n cap : Nat) (M : List (List Int)) (p : Int) (w : World) (hm : Nss w ao n cap M) (hrow : ∀ i, i < n → (M.getD i []).length = 0) (hcol : ∀ wx, Ext w wx → Calls Tryz.prog 42 #[.slice ao n cap] wx fun e w' => e = .returned (.int .i64 (0 : Nat)) ∧ wx = w') (hn : n ≤ 200) (hp : 2 ≤ p) (hp2 : p ≤ 2147483647) :
    Calls Tryz.prog 41 #[.slice ao n cap, .int .i64 p] w fun r w' => ∃ bo cn, r = .returned (.tuple #[.slice bo n cn, .slice none 0 0, .int .i64 1]) ∧ Ext w w' := by
  have HM := Lib.hid hm
  have HROW := Lib.hid hrow
  have CW := Lib.hid hcol
  obtain ⟨C, hCe⟩ : ∃ C, w.heap.size = C := ⟨_, rfl⟩
  have HEX := Lib.hid (show ∀ wx, Below C w wx → Ext w wx from fun wx h => by rw [← hCe] at h; exact h)
  have hC0 : C ≤ w.heap.size := by omega
  clear hm hrow hcol hCe
  go_enter Tryz.func41, Tryz.ntmps41
  go_wp2
  go_loopw [7, 8, 9, 10] (fun av iv _ _ wr => ∃ (i : Nat) (rs : List Value) (K : List (List Int)), i ≤ n ∧ iv = .int .i64 (i : Int) ∧ rs.length = i ∧ Hid (RS wr C av rs K) ∧ Hid (Below C w wr) ∧ C ≤ wr.heap.size)
    (fun _ iv _ _ _ => n - (intOf iv).toNat)
  case atStart => exact ⟨0, [], [], Nat.zero_le _, rfl, rfl, Lib.hid (RS.nil _ C), Lib.hid (Below.refl C w), hC0⟩
  case round =>
    obtain ⟨i, rs, K, hi, rfl, hrl, hRS, hE, hCs⟩ := hrel
    by_cases hlt : i < n
    · have hii : (i : Int) < (n : Int) := by omega
      have HNI := Lib.hid (HM.out.below (HEX.out _ hE.out))
      obtain ⟨a, off, rfl, hc1⟩ := HNI.out.rows (by omega)
      obtain ⟨ri, ci, h1, h2⟩ := hc1 i hlt
      rw [HROW.out i hlt] at h1
      clear hc1 h2
      go_wp2
      go_loopw [9, 10] (fun rv xv wx => xv = .int .i64 0 ∧ rv = .slice none 0 0 ∧ wr = wx) (fun _ _ _ => 0)
      case atStart => exact ⟨rfl, rfl, rfl⟩
      case round =>
        obtain ⟨rfl, rfl, rfl⟩ := hrel
        have hrs1 := hRS.out
        have hfar := hRS.out.lt
        have hl6 : rs.length ≤ 1000000 := by omega
        have hoz : OZ wr wr.heap.size (.slice none 0 0) [] := OZ.nil _ _
        have HRL := Lib.hid hrl
        have HB := hE
        clear hRS hE hrl
        go_wp2_with (at_builtin; refine wpList_append_rs _ rfl (.tmp 48) (.tmp 50) rfl C _ _ rs K _ [] rfl rfl hrs1 hoz hCs hfar hCs hl6 ?_)
        intro pv' w2 hp2' hB2
        have hsz := hB2.size
        have Rr := Lib.hid (And.intro (Lib.hid hp2') (Lib.hid (HB.out.trans hB2)))
        clear hp2' hrs1 hfar hB2 hoz
        go_wp2
        go_roundw
        case rel => exact ⟨i + 1, _, _, by omega, by go_num, by simp [HRL.out], Rr.out.1, Rr.out.2, by omega⟩
        case measure => simp [intOf] <;> omega
    · obtain rfl : n = i := by omega
      obtain ⟨bo, cn, rfl, _⟩ := hRS.out.slE
      rw [hrl]
      have HEW := Lib.hid (HEX.out _ hE.out)
      have h1p : (1 : Int).tmod p = 1 := by rw [Int.tmod_eq_emod_of_nonneg (by omega)]; exact Int.emod_eq_of_lt (by omega) (by omega)
      have h1w : IntKind.i64.wrap ((1 : Int).tmod p) = 1 := by rw [h1p]; exact IntWalk.i64_in _ (by omega)
      have hpne : ¬ p = 0 := by omega
      have hpb : (p == 0) = false := beq_eq_false_iff_ne.2 hpne
      clear hRS hE hrl
      go_wp2
      go_loopw [11, 12, 13, 14, 15, 16, 17, 18, 19, 20] (fun dv qv jv _ _ _ _ _ _ _ wz => jv = .int .i64 0 ∧ dv = .int .i64 1 ∧ qv = .slice none 0 0 ∧ Hid (Ext w wz))
        (fun _ _ _ _ _ _ _ _ _ _ _ => 0)
      case atStart => exact ⟨rfl, rfl, rfl, HEW⟩
      case round =>
        clear HEW
        obtain ⟨rfl, rfl, rfl, HEW⟩ := hrel
        go_wp2_with fail
        refine (CW.out _ HEW.out).mono ?_
        rintro e w1 ⟨rfl, rfl⟩
        go_wp2
        refine bodyPost_ret (v := .tuple #[.slice bo n cn, .slice none 0 0, .int .i64 1]) (by simp [results, Tryz.results41, go_sem]) rfl ⟨bo, cn, rfl, HEW.out⟩
end Go.Proofs.YthicfkeiggcjjaaGreatDoor
