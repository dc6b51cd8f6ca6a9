/- Rounding to the nearest, as plain facts. No program stands here. -/
import Derived.Test.YtjohpdobnedilaaGreatDoorIb
import Derived.Test.YtjohpdobnedilaaGreatDoorGp
namespace Go.Proofs.YtjohpdobnedilaaGreatDoor

theorem sgn3_is_lt {x y : Int} (h : x < y) : sgn3 x y = -1 := by unfold sgn3; rw [if_pos h]
theorem sgn3_gt {x y : Int} (h : y < x) : sgn3 x y = 1 := by unfold sgn3; rw [if_neg (by omega), if_pos h]
theorem sgn3_eq {x y : Int} (h : x = y) : sgn3 x y = 0 := by unfold sgn3; rw [if_neg (by omega), if_neg (by omega)]

/-- rounding what has few bits changes nothing -/
theorem dround_few {d : Dy} {pr mode : Int} (hn : d ≠ none) (hd : Nd d) (h1 : 1 ≤ pr) (h2 : pr ≤ 80) (h : (blen (dm d).natAbs : Int) ≤ pr) : dround d pr mode = d := by
  cases d with
  | none => exact absurd rfl hn
  | some q =>
    obtain ⟨m, e⟩ := q
    have h' : blen m.natAbs ≤ pr.toNat := by have : (blen m.natAbs : Int) ≤ pr := h; omega
    show (if 1 ≤ pr ∧ pr ≤ 4096 then drd m e pr.toNat mode else none) = _
    rw [if_pos (by omega)]
    unfold drd
    rw [if_pos (by omega)]
    exact dmk_norm hd

theorem is_ne {d : Dy} {S : Nat} {N : Int} (h : Is d S N) : d ≠ none := by
  obtain ⟨m, e, rfl, _⟩ := h; simp

/-- what the four roundings of a dyad with more bits are -/
structure NearBig (d lo hi near inn : Dy) (c : Int) : Prop where
  lo_ne : lo ≠ none
  hi_ne : hi ≠ none
  near_ne : near ≠ none
  lohi : lo ≠ hi
  a : sgn3 (sc lo) (sc d) = -1
  b : sgn3 (sc d) (sc hi) = -1
  below : dsub d lo ≠ none
  above : dsub hi d ≠ none
  cmp : sgn3 (sc (dsub d lo)) (sc (dsub hi d)) = c
  choice : c = -1 ∧ near = lo ∨ c = 1 ∧ near = hi ∨ c = 0 ∧ (near = lo ∨ near = hi)
  inward : dm d < 0 ∧ inn = hi ∨ 0 ≤ dm d ∧ inn = lo

theorem near_big {d : Dy} {pr : Int} (hs : Slim d) (h1 : 1 ≤ pr) (h2 : pr ≤ 80) (h : pr < (blen (dm d).natAbs : Int)) :
    ∃ c, NearBig d (dround d pr 1) (dround d pr 2) (dround d pr 0) (dround d pr 3) c := by
  obtain ⟨_, N, hI, hN⟩ := hs
  obtain ⟨m, e, rfl, hnd, he, rfl⟩ := hI
  have hm : dm (some (m, e)) = m := rfl
  rw [hm] at h
  obtain ⟨p, hp⟩ : ∃ p : Nat, pr = p := ⟨pr.toNat, by omega⟩
  subst hp
  have hdr : ∀ mode, dround (some (m, e)) (p : Int) mode = drd m e p mode := by
    intro mode
    show (if 1 ≤ (p : Int) ∧ (p : Int) ≤ 4096 then drd m e (p : Int).toNat mode else none) = _
    rw [if_pos (by omega), Int.toNat_natCast]
  have hodd : tzf m.natAbs = 0 := by
    rcases hnd with ⟨h3, _⟩ | ⟨h3, _⟩
    · rw [h3] at h; simp [blen] at h; omega
    · exact tzf_odd h3
  obtain ⟨k, hk⟩ : ∃ k, blen m.natAbs = p + (k + 1) := ⟨blen m.natAbs - p - 1, by omega⟩
  have har := around_of hk (by omega)
  have hrd : ∀ mode, drd m e p mode = dmk (m / 2 ^ (k + 1) + if rup m k mode then 1 else 0) (e + ((k + 1 : Nat) : Int)) := by
    intro mode
    rcases drd_cases m e p mode with ⟨h3, _⟩ | ⟨k', h3, _, _, h4⟩
    · omega
    · obtain rfl : k' = k := by omega
      exact h4
  have hnear := rup_near har
  obtain ⟨hq1, hq2⟩ := har.sizes
  obtain ⟨s, hs⟩ : ∃ s : Nat, (s : Int) = e + 2000 := ⟨(e + 2000).toNat, by omega⟩
  have es : (e + (2000 : Nat)).toNat = s := by omega
  have eD : (e + ((k + 1 : Nat) : Int) + (2000 : Nat)).toNat = s + (k + 1) := by omega
  rw [es] at hN
  generalize m / 2 ^ (k + 1) = q at *
  generalize hr : m % 2 ^ (k + 1) = r at *
  have hSB := SB_le
  -- how large the multiples are
  have hbig : 2 ^ p * 2 ^ (s + (k + 1)) < 2 ^ (SB + 1) := by
    obtain ⟨l, hl, hl1, _⟩ := blen_spec (show m.natAbs ≠ 0 by intro h0; rw [h0] at hk; simp [blen] at hk)
    rw [natAbs_shift] at hN
    have h5 : 2 ^ l * 2 ^ s ≤ m.natAbs * 2 ^ s := Nat.mul_le_mul_right _ hl1
    rw [← Nat.pow_add] at h5 ⊢
    have h6 : 2 ^ (l + s) < 2 ^ SB := Nat.lt_of_le_of_lt h5 hN
    have h7 := (Nat.pow_lt_pow_iff_right (show 1 < 2 by omega)).1 h6
    exact Nat.pow_lt_pow_right (by omega) (by omega)
  have hb : ∀ y : Int, y.natAbs ≤ 2 ^ p → (y * 2 ^ (s + (k + 1))).natAbs < 2 ^ (SB + 1) := by
    intro y hy
    rw [natAbs_shift]
    exact Nat.lt_of_le_of_lt (Nat.mul_le_mul_right _ hy) hbig
  have hIs : ∀ y : Int, y.natAbs ≤ 2 ^ p → Is (dmk y (e + ((k + 1 : Nat) : Int))) 2000 (y * 2 ^ (s + (k + 1))) := by
    intro y hy
    have := is_mk (y := y) (f := e + ((k + 1 : Nat) : Int)) (S := 2000) (B := SB + 1) (by omega) (by omega) (by omega) (by rw [eD]; exact hb y hy)
    rwa [eD] at this
  have iL := hIs q hq1
  have iH := hIs (q + 1) hq2
  have iD : Is (some (m, e)) 2000 (m * 2 ^ s) := ⟨m, e, rfl, hnd, he, by rw [es]⟩
  have hP := two_pos s
  have hK := two_pos k
  have eqm := har.eq
  have hr0 := har.pos
  have hr1 := har.lt
  have e2 : (2 : Int) ^ (k + 1) = 2 * 2 ^ k := by rw [Int.pow_succ, Int.mul_comm]
  have eL : q * 2 ^ (s + (k + 1)) = q * 2 ^ (k + 1) * 2 ^ s := by rw [Nat.add_comm, Int.pow_add, Int.mul_assoc]
  have eH : (q + 1) * 2 ^ (s + (k + 1)) = (q * 2 ^ (k + 1) + 2 ^ (k + 1)) * 2 ^ s := by
    rw [Nat.add_comm, Int.pow_add, ← Int.mul_assoc, Int.add_mul, Int.one_mul]
  have hbL := hb q hq1
  have hbH := hb (q + 1) hq2
  have hbD : (m * 2 ^ s).natAbs < 2 ^ (SB + 1) := lt_up hN
  have iBelow : Is (dsub (some (m, e)) (dmk q (e + ((k + 1 : Nat) : Int)))) 2000 (r * 2 ^ s) := by
    have h5 := iD.add iL.neg (by omega) (B := SB + 1 + 1) (abs_add_lt hbD (by rw [Int.natAbs_neg]; exact hbL)) (by omega)
    have h6 : m * 2 ^ s + -(q * 2 ^ (s + (k + 1))) = r * 2 ^ s := by
      rw [eL, ← Int.neg_mul, ← Int.add_mul]
      congr 1; omega
    rwa [h6] at h5
  have iAbove : Is (dsub (dmk (q + 1) (e + ((k + 1 : Nat) : Int))) (some (m, e))) 2000 ((2 ^ (k + 1) - r) * 2 ^ s) := by
    have h5 := iH.add iD.neg (by omega) (B := SB + 1 + 1) (abs_add_lt hbH (by rw [Int.natAbs_neg]; exact hbD)) (by omega)
    have h6 : (q + 1) * 2 ^ (s + (k + 1)) + -(m * 2 ^ s) = (2 ^ (k + 1) - r) * 2 ^ s := by
      rw [eH, ← Int.neg_mul, ← Int.add_mul]
      congr 1; omega
    rwa [h6] at h5
  have d1 : dround (some (m, e)) (p : Int) 1 = dmk q (e + ((k + 1 : Nat) : Int)) := by rw [hdr, hrd, rup_down]; simp
  have d2 : dround (some (m, e)) (p : Int) 2 = dmk (q + 1) (e + ((k + 1 : Nat) : Int)) := by rw [hdr, hrd, rup_up]; simp
  have d3 : dround (some (m, e)) (p : Int) 3 = dmk (q + if m < 0 then 1 else 0) (e + ((k + 1 : Nat) : Int)) := by
    rw [hdr, hrd, rup_in]
    by_cases hm0 : m < 0 <;> simp [hm0]
  have d0 := (hdr 0).trans (hrd 0)
  rw [d1, d2, d3, d0]
  have hlh : dmk q (e + ((k + 1 : Nat) : Int)) ≠ dmk (q + 1) (e + ((k + 1 : Nat) : Int)) := by
    intro h5
    have h6 := (is_eq iL iH).1 h5
    rw [eL, eH, Int.add_mul] at h6
    have := Int.mul_pos (two_pos (k + 1)) hP
    omega
  have hcmp : sgn3 (sc (dsub (some (m, e)) (dmk q (e + ((k + 1 : Nat) : Int))))) (sc (dsub (dmk (q + 1) (e + ((k + 1 : Nat) : Int))) (some (m, e)))) = sgn3 r (2 ^ (k + 1) - r) := by
    rw [is_cmp iBelow iAbove (by omega), sgn3_common]
  refine ⟨sgn3 r (2 ^ (k + 1) - r), is_ne iL, is_ne iH, ?_, hlh, ?_, ?_, is_ne iBelow, is_ne iAbove, hcmp, ?_, ?_⟩
  · cases rup m k 0
    · simpa using is_ne iL
    · simpa using is_ne iH
  · rw [is_cmp iL iD (by omega), eL, sgn3_common]
    exact sgn3_is_lt (by omega)
  · rw [is_cmp iD iH (by omega), eH, sgn3_common]
    exact sgn3_is_lt (by omega)
  · rcases Int.lt_trichotomy r (2 ^ k) with h5 | h5 | h5
    · left
      refine ⟨sgn3_is_lt (by omega), ?_⟩
      rw [hnear.1 h5]; simp
    · right; right
      refine ⟨sgn3_eq (by omega), ?_⟩
      cases rup m k 0
      · left; simp
      · right; simp
    · right; left
      refine ⟨sgn3_gt (by omega), ?_⟩
      rw [hnear.2 h5]; simp
  · by_cases hm0 : m < 0
    · left; exact ⟨hm0, by rw [if_pos hm0]⟩
    · right; exact ⟨by show 0 ≤ m; omega, by rw [if_neg hm0]; simp⟩

/-- rounded numbers have few bits -/
theorem dround_bits {d : Dy} {pr mode : Int} (hd : Nd d) (h1 : 1 ≤ pr) (h2 : pr ≤ 80) : (blen (dm (dround d pr mode)).natAbs : Int) ≤ pr := by
  cases d with
  | none => simp [dround, dm, blen]; omega
  | some q =>
    obtain ⟨m, e⟩ := q
    obtain ⟨p, hp⟩ : ∃ p : Nat, pr = p := ⟨pr.toNat, by omega⟩
    subst hp
    have hdr : dround (some (m, e)) (p : Int) mode = drd m e p mode := by
      show (if 1 ≤ (p : Int) ∧ (p : Int) ≤ 4096 then drd m e (p : Int).toNat mode else none) = _
      rw [if_pos (by omega), Int.toNat_natCast]
    rw [hdr]
    rcases drd_cases m e p mode with ⟨h3, h4⟩ | ⟨k, h3, h5, _, h4⟩
    · rw [h4, dmk_norm hd]
      show (blen m.natAbs : Int) ≤ p
      rcases hd with ⟨h6, _⟩ | ⟨h6, _⟩
      · rw [h6]; simp [blen]
      · rw [tzf_odd h6] at h3; omega
    · rw [h4]
      have har := around_of h3 h5
      obtain ⟨hq1, hq2⟩ := har.sizes
      have : blen (dm (dmk (m / 2 ^ (k + 1) + if rup m k mode then 1 else 0) (e + ((k + 1 : Nat) : Int)))).natAbs ≤ p := by
        refine blen_odd (by omega) ?_ _
        cases rup m k mode
        · simpa using hq1
        · simpa using hq2
      omega
end Go.Proofs.YtjohpdobnedilaaGreatDoor
