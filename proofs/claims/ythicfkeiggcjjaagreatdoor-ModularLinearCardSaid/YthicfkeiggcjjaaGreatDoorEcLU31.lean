import Derived.Test.YthicfkeiggcjjaaGreatDoorEcLU16
import Derived.Test.YthicfkeiggcjjaaGreatDoorEcLU22
import Derived.Test.YthicfkeiggcjjaaGreatDoorEcLU18
import Derived.Test.YthicfkeiggcjjaaGreatDoorEcLU23
import Derived.Deep.CutRange
import Derived.RegionTactic
import Derived.Test.YthicfkeiggcjjaaGreatDoorEcLU28
import Derived.Test.YthicfkeiggcjjaaGreatDoorEcLU29
import Derived.Test.YthicfkeiggcjjaaGreatDoorEcLU30
namespace Go.Proofs.YthicfkeiggcjjaaGreatDoor
/-- one prime more in the remainder theorem: the number and the product so far -/
def crtStep (x n r p : Int) : Int := x + n * ((r % p - x % p) % p * ((powm (n % p).toNat (p - 2).toNat p.toNat : Nat) : Int) % p)
def crtN (ps : List Int) : Int := ps.foldl (· * ·) 1
def crtX : List (Int × Int) → Int → Int → Int
  | [], x, _ => x
  | (r, p) :: l, x, n => crtX l (crtStep x n r p) (n * p)
theorem crtStep_range {x n r p : Int} (hx : 0 ≤ x) (hxn : x < n) (hp : 0 < p) : 0 ≤ crtStep x n r p ∧ crtStep x n r p < n * p := by
  unfold crtStep
  generalize (r % p - x % p) % p * ((powm (n % p).toNat (p - 2).toNat p.toNat : Nat) : Int) = z
  have h1 := Int.emod_nonneg z (show p ≠ 0 by omega)
  have h2 := Int.emod_lt_of_pos z hp
  have h3 : 0 ≤ n * (z % p) := Int.mul_nonneg (by omega) h1
  have h4 : n * (z % p) ≤ n * (p - 1) := Int.mul_le_mul_of_nonneg_left (by omega) (by omega)
  rw [Int.mul_sub, Int.mul_one] at h4
  omega
/-- the number closest to 0 -/
def crtC (x n : Int) : Int := if n < 2 * x then x - n else x
end Go.Proofs.YthicfkeiggcjjaaGreatDoor

namespace Go.Proofs.YthicfkeiggcjjaaGreatDoor

/-- after k primes -/
def CrtAt (k : Nat) (X N : Int) : Prop := 0 ≤ X ∧ X < N ∧ N < 4294967296 ^ (k + 1)
theorem CrtAt.start : CrtAt 0 0 1 := ⟨by omega, by omega, by decide⟩
theorem CrtAt.step {k : Nat} {X N r p : Int} (h : CrtAt k X N) (hp : 0 < p) (hp1 : p ≤ 2147483647) : CrtAt (k + 1) (crtStep X N r p) (N * p) := by
  obtain ⟨h0, h1, h2⟩ := h
  obtain ⟨s0, s1⟩ := crtStep_range (r := r) h0 h1 hp
  refine ⟨s0, s1, ?_⟩
  have : N * p ≤ N * 4294967296 := Int.mul_le_mul_of_nonneg_left (by omega) (by omega)
  have e : (4294967296 : Int) ^ (k + 1 + 1) = 4294967296 ^ (k + 1) * 4294967296 := Int.pow_succ _ _
  omega
theorem CrtAt.abs {k : Nat} {X N : Int} (h : CrtAt k X N) : X.natAbs < 4294967296 ^ (k + 1) ∧ N.natAbs < 4294967296 ^ (k + 1) := by
  obtain ⟨h0, h1, h2⟩ := h
  have e : ((4294967296 ^ (k + 1) : Nat) : Int) = (4294967296 : Int) ^ (k + 1) := Int.natCast_pow _ _
  constructor <;> omega
/-- the pairs of remainders and primes -/
def crtPairs (res ps : List Int) : List (Int × Int) := res.zip ps
def crtFin (res ps : List Int) : Int := crtX (crtPairs res ps) 0 1
theorem crt_drop {res ps : List Int} {k n : Nat} (h1 : res.length = n) (h2 : ps.length = n) (hk : k < n) (X N : Int) :
    crtX ((crtPairs res ps).drop k) X N = crtX ((crtPairs res ps).drop (k + 1)) (crtStep X N (res.getD k 0) (ps.getD k 0)) (N * ps.getD k 0) := by
  have hl : k < (crtPairs res ps).length := by unfold crtPairs; rw [List.length_zip]; omega
  rw [List.drop_eq_getElem_cons hl]
  have e : (crtPairs res ps)[k] = (res.getD k 0, ps.getD k 0) := by
    simp [crtPairs, List.getD, show k < res.length by omega, show k < ps.length by omega]
  rw [e]; rfl
theorem crt_done {res ps : List Int} {n : Nat} (h1 : res.length = n) (X N : Int) : crtX ((crtPairs res ps).drop n) X N = X := by
  rw [List.drop_eq_nil_of_le (by unfold crtPairs; rw [List.length_zip]; omega)]; rfl
theorem crtN_take {ps : List Int} {k : Nat} (hk : k < ps.length) : crtN (ps.take (k + 1)) = crtN (ps.take k) * ps.getD k 0 := by
  unfold crtN
  rw [List.take_add_one, List.foldl_append, List.getElem?_eq_getElem hk]
  simp [List.getD, hk]
end Go.Proofs.YthicfkeiggcjjaaGreatDoor

namespace Go.Proofs.YthicfkeiggcjjaaGreatDoor
theorem range0 : chk 2 9998 = true := by decide +kernel
theorem range1 : chk 10000 10000 = true := by decide +kernel
theorem range2 : chk 20000 10000 = true := by decide +kernel
theorem range3 : chk 30000 10000 = true := by decide +kernel
end Go.Proofs.YthicfkeiggcjjaaGreatDoor

namespace Go.Proofs.YthicfkeiggcjjaaGreatDoor
theorem range4 : chk 40000 10000 = true := by decide +kernel
theorem range5 : chk 50000 10000 = true := by decide +kernel
theorem range6 : chk 60000 10000 = true := by decide +kernel
end Go.Proofs.YthicfkeiggcjjaaGreatDoor

namespace Go.Proofs.YthicfkeiggcjjaaGreatDoor
theorem range7 : chk 70000 10000 = true := by decide +kernel
theorem range8 : chk 80000 10000 = true := by decide +kernel
theorem range9 : chk 90000 10000 = true := by decide +kernel
theorem top_range : chkT 2147483587 61 = true := by decide +kernel
end Go.Proofs.YthicfkeiggcjjaaGreatDoor

namespace Go.Proofs.YthicfkeiggcjjaaGreatDoor
theorem small_agree {p : Nat} (h2 : 2 ≤ p) (h : p < 100000) : mrB p [2, 3, 5, 7] = true ↔ noDiv p 2 := by
  have key : mrK p = !listDiv p smallPrimes := by
    rcases Nat.lt_or_ge p 10000 with h' | h'
    · exact chk_spec range0 p h2 (by omega)
    rcases Nat.lt_or_ge p 20000 with h' | h'
    · exact chk_spec range1 p (by omega) (by omega)
    rcases Nat.lt_or_ge p 30000 with h' | h'
    · exact chk_spec range2 p (by omega) (by omega)
    rcases Nat.lt_or_ge p 40000 with h' | h'
    · exact chk_spec range3 p (by omega) (by omega)
    rcases Nat.lt_or_ge p 50000 with h' | h'
    · exact chk_spec range4 p (by omega) (by omega)
    rcases Nat.lt_or_ge p 60000 with h' | h'
    · exact chk_spec range5 p (by omega) (by omega)
    rcases Nat.lt_or_ge p 70000 with h' | h'
    · exact chk_spec range6 p (by omega) (by omega)
    rcases Nat.lt_or_ge p 80000 with h' | h'
    · exact chk_spec range7 p (by omega) (by omega)
    rcases Nat.lt_or_ge p 90000 with h' | h'
    · exact chk_spec range8 p (by omega) (by omega)
    exact chk_spec range9 p (by omega) (by omega)
  rw [← mrK_eq (by omega) (by omega), key, ← small_noDiv (by omega)]
  cases listDiv p smallPrimes <;> simp
theorem top_agree {p : Nat} (h2 : 2147483587 ≤ p) (h : p ≤ 2147483647) : mrB p [2, 3, 5, 7] = true ↔ noDiv p 2 := by
  rw [← mrK_eq (by omega) (by omega), chkT_spec top_range p (by omega) (by omega), ← anyDiv_noDiv (p := p) (t := 46340) (n := 46339) rfl (by omega)]
  cases anyDiv p 46340 46339 <;> simp
/-- where the test is the trial -/
theorem mr_isP {p : Int} (h : p < 100000 ∨ 2147483587 ≤ p) : mr p = isP p := by
  refine (isP_of ?_).symm
  unfold mr
  by_cases h1 : 2 ≤ p ∧ p ≤ 2147483647
  · obtain ⟨n, rfl⟩ := Int.eq_ofNat_of_zero_le (show 0 ≤ p by omega)
    have hk : mrB n [2, 3, 5, 7] = true ↔ noDiv n 2 := by
      rcases h with h | h
      · exact small_agree (by omega) (by omega)
      · exact top_agree (by omega) (by omega)
    rw [show ((n : Int)).toNat = n from rfl, decide_eq_true h1, Bool.true_and, hk]
    exact ⟨fun h => ⟨h1.1, h1.2, h⟩, fun h => h.2.2⟩
  · rw [decide_eq_false h1, Bool.false_and]
    exact ⟨fun h => (by cases h), fun h => absurd ⟨h.1, h.2.1⟩ h1⟩
end Go.Proofs.YthicfkeiggcjjaaGreatDoor

namespace Go.Proofs.YthicfkeiggcjjaaGreatDoor
open Go Go.RowKit

theorem OZ.sl {w : World} {B : Nat} {v : Value} {L : List Int} (h : OZ w B v L) : ∃ ao cap, v = .slice ao L.length cap ∧ Ns w ao L.length cap L := by
  by_cases h0 : L = []
  · subst h0
    obtain ⟨h1, h2⟩ := h
    rcases h2 with ⟨rfl, _⟩ | ⟨g, cap, cur, rfl, hb, hg, hn, hm, hs, ht⟩
    · exact ⟨none, 0, rfl, rfl, Nat.le_refl _, fun h => absurd h (by simp)⟩
    · exact ⟨_, cap, rfl, rfl, hn, fun h => absurd h (by simp)⟩
  · exact h.ns h0

end Go.Proofs.YthicfkeiggcjjaaGreatDoor

namespace Go.Proofs.YthicfkeiggcjjaaGreatDoor
open Go Go.RowKit

/-- what the reference's Echelon returns for a rectangular matrix -/
def EchOut (n c : Nat) (S : Ech) (w : World) (r : Ending) (w' : World) : Prop :=
  ∃ ao cn qo qc d, r = .returned (.tuple #[.slice ao n cn, .slice qo S.L.length qc, .int .i64 d]) ∧ Ns w' qo S.L.length qc S.L ∧ d = (if S.L.length = c then S.f else 0) ∧ (0 < c → ∃ b rs, ao = some ⟨b, 0, none⟩ ∧ Mat w' b rs c S.M ∧ rs.length = n) ∧ Ext w w'
theorem refEch_all (ao : Option Addr) (n cap c : Nat) (M : List (List Int)) (p : Int) (S : Ech) (w : World) (hm : Nss w ao n cap M) (hrow : ∀ i, i < n → (M.getD i []).length = c) (hw : widthM M = c) (hn : n ≤ 200) (hc : c ≤ 201) (hp : 2 ≤ p) (hp2 : p ≤ 2147483647) (hS : reduceE p c 0 ⟨resM p M, [], 1⟩ = S) :
    Calls Tryz.prog 41 #[.slice ao n cap, .int .i64 p] w (EchOut n c S w) := by
  by_cases hc0 : c = 0
  · subst hc0
    have e : S = ⟨resM p M, [], 1⟩ := hS.symm
    refine (refEch_zero ao n cap M p w hm hrow (fun wx h => by have := refCols_any ao n cap M wx (hm.below h); rwa [hw] at this) hn hp hp2).mono ?_
    rintro r w' ⟨bo, cn, rfl, hE⟩
    rw [e]
    exact ⟨bo, cn, none, 0, 1, rfl, ⟨rfl, Nat.le_refl _, fun h => absurd h (by simp)⟩, rfl, fun h => absurd h (by omega), hE⟩
  · have h0 : 0 < n := by
      rcases Nat.eq_zero_or_pos n with h | h
      · exfalso
        have := hm.len
        rw [h] at this
        rw [List.eq_nil_of_length_eq_zero this] at hw
        exact hc0 hw.symm
      · exact h
    have hok := res_ok (p := p) (n := n) (c := c) hp hm.len hrow
    have hb := Beside.reduce (p := p) (n := n) (c := c) hp c 0 ⟨resM p M, [], 1⟩ ⟨resM p M, [], 1⟩ ⟨rfl, rfl, Nat.le_refl _, rfl⟩ hok
    rw [hS, Nat.zero_add] at hb
    refine (refEch_any ao n cap c M p _ w hm hrow hw h0 (by omega) hn hc hp hp2 rfl).mono ?_
    rintro r w' ⟨b, cn, rs, qo, qk, qc, rfl, hM, hrl, hoz, hE⟩
    rw [hb.M] at hM
    rw [hb.L] at hoz
    obtain ⟨rfl, hns⟩ := hoz.nsE
    exact ⟨_, cn, qo, qc, _, rfl, hns, hb.f, fun _ => ⟨b, rs, rfl, hM, hrl⟩, hE⟩

set_option maxRecDepth 100000 in
theorem refRank_any (ao : Option Addr) (n cap c : Nat) (M : List (List Int)) (p : Int) (S : Ech) (w : World) (hm : Nss w ao n cap M) (hrow : ∀ i, i < n → (M.getD i []).length = c) (hw : widthM M = c) (hn : n ≤ 200) (hc : c ≤ 201) (hp : 2 ≤ p) (hp2 : p ≤ 2147483647) (hS : reduceE p c 0 ⟨resM p M, [], 1⟩ = S) :
    Calls Tryz.prog 18 #[.slice ao n cap, .int .i64 p] w fun r w' => r = .returned (.int .i64 (S.L.length : Nat)) ∧ Ext w w' := by
  have CE := Lib.hid (refEch_all ao n cap c M p S w hm hrow hw hn hc hp hp2 hS)
  obtain ⟨k, hk⟩ : ∃ k, S.L.length = k := ⟨_, rfl⟩
  rw [hk]
  have HK := Lib.hid hk
  clear hm hrow hw hS hk
  go_enter Tryz.func18, Tryz.ntmps18
  go_wp2_with fail
  refine CE.out.mono ?_
  rintro r w1 ⟨bo, cn, qo, qc, d, rfl, -, -, -, hE⟩
  have HE := Lib.hid hE
  clear CE hE
  rw [HK.out]
  go_wp2
  go_ret
  exact ⟨rfl, HE.out⟩

set_option maxRecDepth 100000 in
theorem refDet_any (ao : Option Addr) (n cap : Nat) (M : List (List Int)) (p : Int) (S : Ech) (w : World) (hm : Nss w ao n cap M) (hrow : ∀ i, i < n → (M.getD i []).length = n) (hw : widthM M = n) (hn : n ≤ 200) (hp : 2 ≤ p) (hp2 : p ≤ 2147483647) (hS : reduceE p n 0 ⟨resM p M, [], 1⟩ = S) (hSl : S.L.length ≤ n) :
    Calls Tryz.prog 20 #[.slice ao n cap, .int .i64 p] w fun r w' => r = .returned (.int .i64 (detE n S)) ∧ Ext w w' := by
  have CE := Lib.hid (refEch_all ao n cap n M p S w hm hrow hw hn (by omega) hp hp2 hS)
  clear hm hrow hw hS
  have HD := Lib.hid (show ∀ d, d = (if S.L.length = n then S.f else 0) → (if S.L.length < n then 0 else d) = detE n S from fun d h => by
    unfold detE
    by_cases hl : S.L.length < n
    · rw [if_pos hl, if_pos hl]
    · rw [if_neg hl, if_neg hl, h, if_pos (by omega)])
  obtain ⟨D, hD⟩ : ∃ D, detE n S = D := ⟨_, rfl⟩
  rw [hD] at HD ⊢
  clear hD
  go_enter Tryz.func20, Tryz.ntmps20
  go_wp2_with fail
  refine CE.out.mono ?_
  rintro r w1 ⟨bo, cn, qo, qc, d, rfl, -, hd, -, hE⟩
  have HE := Lib.hid hE
  have HD2 := Lib.hid (HD.out d hd)
  clear CE hE hd HD
  obtain ⟨k, hk⟩ : ∃ k, S.L.length = k := ⟨_, rfl⟩
  rw [hk] at HD2 ⊢
  clear hk hSl
  by_cases hl : k < n
  · have hli : (k : Int) < (n : Int) := by omega
    obtain rfl : 0 = D := by have := HD2.out; rwa [if_pos hl] at this
    go_wp2
    go_ret
    exact ⟨rfl, HE.out⟩
  · have hli : ¬ (k : Int) < (n : Int) := by omega
    have hdd : d = D := by have := HD2.out; rwa [if_neg hl] at this
    subst hdd
    go_wp2
    go_ret
    exact ⟨rfl, HE.out⟩

set_option maxRecDepth 100000 in
set_option maxHeartbeats 8000000 in
theorem refShape_any (ao : Option Addr) (n cap : Nat) (l : List Int) (E : Int) (w : World) (h : Ns w ao n cap l) (hn : n ≤ 200) (hl : ∀ i, i < n → l.getD i 0 ≤ 200) (hE : E = if ∀ i, i < n → l.getD i 0 = l.getD 0 0 then 0 else 5) :
    Calls Tryz.prog 40 #[.slice ao n cap] w fun r w' => r = .returned (.int .i64 E) ∧ Ext w w' := by
  have HN := Lib.hid h
  have HL := Lib.hid hl
  have HE := Lib.hid hE
  clear h hl hE
  go_enter Tryz.func40, Tryz.ntmps40
  go_wp2
  go_loopw [3] (fun iv wr => ∃ i : Nat, i ≤ n ∧ iv = .int .i64 (i : Int) ∧ Hid (∀ j, j < i → l.getD j 0 = l.getD 0 0) ∧ Ext w wr) (fun iv _ => n - (intOf iv).toNat)
  case atStart => exact ⟨0, Nat.zero_le _, rfl, Lib.hid (fun j hj => absurd hj (Nat.not_lt_zero _)), Ext.refl _⟩
  case round =>
    obtain ⟨i, hi, rfl, HJ, hEx⟩ := hrel
    have HEX := Lib.hid hEx
    have HEX2 := Lib.hid (HEX.out.trans (Below.refl _ _).drew)
    by_cases hlt : i < n
    · obtain ⟨b, o, rfl, hc⟩ := (HN.out.below hEx).cells (by omega)
      have k1 := hc i hlt
      have k2 := hc 0 (by omega)
      obtain ⟨x, hx⟩ : ∃ x, l.getD i 0 = x := ⟨_, rfl⟩
      obtain ⟨y, hy⟩ : ∃ y, l.getD 0 0 = y := ⟨_, rfl⟩
      rw [hx] at k1
      rw [hy, Nat.add_zero] at k2
      have HXY := Lib.hid (And.intro hx hy)
      have hii : (i : Int) < (n : Int) := by omega
      have hn0 : (0 : Int) < (n : Int) := by omega
      clear hc hx hy hEx
      go_upto_region 4 with fail
      first | go_region | fail "r4"
      by_cases hxy : x = y
      · subst hxy
        have hb : (x != x) = false := by simp
        have HJ2 := Lib.hid (show ∀ j, j < i + 1 → l.getD j 0 = l.getD 0 0 from fun j hj => by
          rcases Nat.lt_or_ge j i with h | h
          · exact HJ.out j h
          · obtain rfl : i = j := by omega
            rw [HXY.out.1, HXY.out.2])
        go_wp2
        go_roundw
        case rel => exact ⟨i + 1, by omega, by go_num, HJ2, HEX2.out⟩
        case measure => simp [intOf]; omega
      · have hb : (x != y) = true := by simpa using hxy
        obtain rfl : 5 = E := by
          have := HE.out
          rw [if_neg (fun h => hxy (by have := h i hlt; rwa [HXY.out.1, HXY.out.2] at this))] at this
          exact this.symm
        go_wp2
        go_ret
        exact ⟨rfl, HEX2.out⟩
    · obtain rfl : n = i := by omega
      obtain rfl : 0 = E := by
        have := HE.out
        rw [if_pos HJ.out] at this
        exact this.symm
      have hn2 : ¬ (200 : Int) < (n : Int) := by omega
      by_cases h0 : 0 < n
      · obtain ⟨b, o, rfl, hc⟩ := (HN.out.below hEx).cells h0
        have k2 := hc 0 h0
        have hy2 := HL.out 0 h0
        obtain ⟨y, hy⟩ : ∃ y, l.getD 0 0 = y := ⟨_, rfl⟩
        rw [hy, Nat.add_zero] at k2
        rw [hy] at hy2
        have hyn : ¬ (200 : Int) < y := by omega
        have hn0 : (0 : Int) < (n : Int) := by omega
        clear hc hy hEx
        go_wp2
        go_ret
        exact ⟨rfl, HEX.out⟩
      · have hn0 : ¬ (0 : Int) < (n : Int) := by omega
        clear hEx
        go_wp2
        go_ret
        exact ⟨rfl, HEX.out⟩

theorem all_len {M : List (List Int)} {n : Nat} (h : M.length = n) : (∀ i, i < n → ((M.map fun l => (l.length : Int)).getD i 0) = ((M.map fun l => (l.length : Int)).getD 0 0)) ↔ (M.all fun l => decide (l.length = widthM M)) = true := by
  have key : ∀ i, i < n → (M.map fun l => (l.length : Int)).getD i 0 = ((M.getD i []).length : Int) := fun i hi => by
    rw [← h] at hi
    simp [List.getD, hi]
  constructor
  · intro h1
    rw [List.all_eq_true]
    intro l hlm
    obtain ⟨i, hi, rfl⟩ := List.getElem_of_mem hlm
    have h2 := h1 i (by omega)
    rw [key i (by omega), key 0 (by omega)] at h2
    have e : M.getD i [] = M[i] := by simp [List.getD, hi]
    rw [e] at h2
    unfold widthM
    rw [decide_eq_true_eq]
    omega
  · intro h1 i hi
    rw [key i hi, key 0 (by omega)]
    rw [List.all_eq_true] at h1
    have h2 := h1 (M.getD i []) (by rw [← h] at hi; simp [List.getD, hi])
    rw [decide_eq_true_eq] at h2
    unfold widthM at h2
    omega
set_option maxRecDepth 100000 in
set_option maxHeartbeats 8000000 in
theorem refCheck_any (ao : Option Addr) (n cap : Nat) (M : List (List Int)) (p E : Int) (w : World) (hm : Nss w ao n cap M) (hn : n ≤ 200) (hl : ∀ i, i < n → (M.getD i []).length ≤ 200) (hq : mr p = isP p) (hE : matE p M = E) :
    Calls Tryz.prog 17 #[.slice ao n cap, .int .i64 p] w fun r w' => r = .returned (.int .i64 E) ∧ Ext w w' := by
  have CI := Lib.hid (refIsPrime_any p w)
  rw [← hq] at CI
  have HM := Lib.hid hm
  have HML := Lib.hid hm.len
  have HE := Lib.hid hE
  have HLL := Lib.hid hl
  cases hp : mr p with
  | false =>
    obtain rfl : 70 = E := by have := HE.out; unfold matE at this; rwa [if_pos hp] at this
    rw [hp] at CI
    clear hm hE hp HE
    go_enter Tryz.func17, Tryz.ntmps17
    go_wp2_with fail
    refine CI.out.mono ?_
    rintro e w1 ⟨rfl, rfl⟩
    go_wp2
    go_ret
    exact ⟨rfl, Ext.refl _⟩
  | true =>
    rw [hp] at CI
    obtain ⟨L, hL⟩ : ∃ L : List Int, L = M.map fun l => (l.length : Int) := ⟨_, rfl⟩
    have HL := Lib.hid hL
    have HEE := Lib.hid (show E = if ∀ i, i < n → L.getD i 0 = L.getD 0 0 then 0 else 5 by
      have h1 := all_len hm.len
      rw [← hL] at h1
      rw [← HE.out]
      unfold matE
      rw [if_neg (by rw [hp]; decide)]
      by_cases h : (M.all fun l => decide (l.length = widthM M)) = true
      · rw [if_pos h, if_pos (h1.2 h)]
      · rw [if_neg h, if_neg (fun hh => h (h1.1 hh))])
    have HLe := Lib.hid (show L.length = n by rw [hL, List.length_map, hm.len])
    obtain ⟨C, hCe⟩ : ∃ C, w.heap.size = C := ⟨_, rfl⟩
    have HEX := Lib.hid (show ∀ wx, Below C w wx → Ext w wx from fun wx h => by rw [← hCe] at h; exact h)
    have hC0 : C ≤ w.heap.size := by omega
    clear hm hE hp hl hL hCe HE hq
    go_enter Tryz.func17, Tryz.ntmps17
    go_wp2_with fail
    refine CI.out.mono ?_
    rintro e w1 ⟨rfl, rfl⟩
    go_wp2
    go_loopw [5, 6] (fun pv ix wr => ∃ (j : Nat), j ≤ n ∧ ix = .int .i64 j ∧ OZ wr C pv (L.take j) ∧ Below C w wr ∧ C ≤ wr.heap.size)
      (fun _ ix _ => n - (intOf ix).toNat)
    case atStart => exact ⟨0, Nat.zero_le _, rfl, OZ.nil _ C, Below.refl C w, hC0⟩
    case round =>
      obtain ⟨j, hj, rfl, hp, hE, hCs⟩ := hrel
      by_cases hlt : j < n
      · have h := HM.out.below (HEX.out _ hE)
        obtain ⟨b, off, rfl, hc⟩ := h.rows (by omega)
        obtain ⟨ri, ci, hc1, _⟩ := hc j hlt
        obtain ⟨k, hk⟩ : ∃ k, (M.getD j []).length = k := ⟨_, rfl⟩
        rw [hk] at hc1
        have hnp : L.take (j + 1) = L.take j ++ [(k : Int)] := by
          rw [List.take_succ_eq_append_getElem (by rw [HLe.out]; exact hlt), ← hk]
          simp [HL.out, List.getD, show j < M.length by rw [HML.out]; exact hlt]
        have HNP := Lib.hid hnp
        have hlp : (L.take j).length ≤ 1000000 := by rw [List.length_take]; omega
        clear hc h hk hnp
        go_wp2_with (at_builtin; refine wpList_append_z _ rfl (.tmp 16) (.tmp 22) rfl C _ (L.take j) (k : Int) rfl rfl hp hCs hlp ?_)
        intro pv' w2 hp2 hB2
        have hE2 := hE.trans hB2
        have hsz := hB2.size
        rw [← HNP.out] at hp2
        have R := Lib.hid (And.intro hp2 hE2)
        clear hp hp2
        go_wp2
        go_roundw
        case rel => exact ⟨j + 1, by omega, by go_num, R.out.1, R.out.2, by omega⟩
        case measure => simp [intOf] <;> omega
      · obtain rfl : n = j := by omega
        rw [List.take_of_length_le (by rw [HLe.out]; exact Nat.le_refl _)] at hp
        obtain ⟨po, pc, rfl, hns⟩ := hp.nsV
        rw [HLe.out] at hns ⊢
        have HEW := Lib.hid (HEX.out _ hE)
        have CS := Lib.hid (refShape_any po n pc L E wr hns hn (fun i hi => by
          have := HLL.out i hi
          have e : L.getD i 0 = ((M.getD i []).length : Int) := by rw [HL.out]; simp [List.getD, show i < M.length by rw [HML.out]; exact hi]
          rw [e]; omega) HEE.out)
        clear hp hE hns
        go_wp2_with fail
        refine CS.out.mono ?_
        rintro r w2 ⟨rfl, hE2⟩
        have HE2 := Lib.hid (HEW.out.trans hE2)
        clear hE2 CS
        go_wp2
        go_ret
        exact ⟨rfl, HE2.out⟩

set_option maxRecDepth 100000 in
set_option maxHeartbeats 8000000 in
theorem small_any (ao : Option Addr) (n cap : Nat) (M : List (List Int)) (y : Bool) (w : World) (h : Nss w ao n cap M) (hy : y = decide (n ≤ 6 ∧ ∀ i, i < n → (M.getD i []).length ≤ 6)) :
    Calls Tryz.prog 6 #[.slice ao n cap] w fun e w' => e = .returned (.bool y) ∧ w = w' := by
  have HM := Lib.hid h
  have HY := Lib.hid hy
  clear h hy
  by_cases h6 : n ≤ 6
  · have h6i : ¬ (6 : Int) < (n : Int) := by omega
    go_enter Tryz.func6, Tryz.ntmps6
    go_wp2
    go_loopw [3] (fun iv wr => ∃ i : Nat, i ≤ n ∧ iv = .int .i64 (i : Int) ∧ Hid (∀ j, j < i → (M.getD j []).length ≤ 6) ∧ w = wr) (fun iv _ => n - (intOf iv).toNat)
    case atStart => exact ⟨0, Nat.zero_le _, rfl, Lib.hid (fun j hj => absurd hj (Nat.not_lt_zero _)), rfl⟩
    case round =>
      obtain ⟨i, hi, rfl, HJ, rfl⟩ := hrel
      by_cases hlt : i < n
      · obtain ⟨b, o, rfl, hc⟩ := HM.out.rows (by omega)
        obtain ⟨ri, ci, k1, _⟩ := hc i hlt
        obtain ⟨k, hk⟩ : ∃ k, (M.getD i []).length = k := ⟨_, rfl⟩
        rw [hk] at k1
        have HK := Lib.hid hk
        have hii : (i : Int) < (n : Int) := by omega
        clear hc hk
        by_cases hk6 : k ≤ 6
        · have hki : ¬ (6 : Int) < (k : Int) := by omega
          have HJ2 := Lib.hid (show ∀ j, j < i + 1 → (M.getD j []).length ≤ 6 from fun j hj => by
            rcases Nat.lt_or_ge j i with h | h
            · exact HJ.out j h
            · obtain rfl : i = j := by omega
              rw [HK.out]; exact hk6)
          go_wp2
          go_roundw
          case rel => exact ⟨i + 1, by omega, by go_num, HJ2, trivial⟩
          case measure => simp [intOf]; omega
        · have hki : (6 : Int) < (k : Int) := by omega
          obtain rfl : false = y := by
            rw [HY.out]
            exact (decide_eq_false (fun h => hk6 (by have := h.2 i hlt; rwa [HK.out] at this))).symm
          go_wp2
          go_ret
          exact ⟨rfl, rfl⟩
      · obtain rfl : n = i := by omega
        obtain rfl : true = y := by
          rw [HY.out]
          exact (decide_eq_true ⟨h6, HJ.out⟩).symm
        go_wp2
        go_ret
        exact ⟨rfl, rfl⟩
  · have h6i : (6 : Int) < (n : Int) := by omega
    obtain rfl : false = y := by
      rw [HY.out]
      exact (decide_eq_false (fun h => h6 h.1)).symm
    go_enter Tryz.func6, Tryz.ntmps6
    go_wp2
    go_ret
    exact ⟨rfl, rfl⟩
end Go.Proofs.YthicfkeiggcjjaaGreatDoor
