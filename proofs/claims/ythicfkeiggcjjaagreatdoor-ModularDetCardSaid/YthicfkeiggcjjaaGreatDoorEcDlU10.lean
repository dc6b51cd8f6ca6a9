import Derived.Test.YthicfkeiggcjjaaGreatDoorEcDlU0
import Derived.Test.YthicfkeiggcjjaaGreatDoorEcDlU7
namespace Go.Proofs.YthicfkeiggcjjaaGreatDoor

theorem lt_or_ge_int (a b : Int) : a < b ∨ b ≤ a := by omega

/-- the dividend u and the divisor v by their leading limbs: B is the weight of what is below -/
structure Lead (u v top w2 f s B : Int) : Prop where
  bpos : 0 < B
  u0 : (top * 4294967296 + w2) * B ≤ u
  u1 : u < (top * 4294967296 + w2 + 1) * B
  v0 : (f * 4294967296 + s) * B ≤ v
  v1 : v < (f * 4294967296 + s + 1) * B
  t0 : 0 ≤ top
  w0 : 0 ≤ w2
  w1 : w2 < 4294967296
  s0 : 0 ≤ s
  s1 : s < 4294967296
  f0 : 2147483648 ≤ f
  f1 : f < 4294967296
  uv : u < v * 4294967296

/-- q is not too small, and r is what it leaves of the first limbs -/
structure Est (u v top f q r : Int) : Prop where
  qr : q * f + r = top
  r0 : 0 ≤ r
  q0 : 0 ≤ q
  ge : u / v ≤ q

theorem Lead.vpos {u v top w2 f s B : Int} (h : Lead u v top w2 f s B) : 0 < v := by
  have h1 : 0 < (f * 4294967296 + s) * B := Int.mul_pos (by have := h.f0; have := h.s0; omega) h.bpos
  have := h.v0
  omega

theorem Lead.unonneg {u v top w2 f s B : Int} (h : Lead u v top w2 f s B) : 0 ≤ u := by
  have h1 : 0 ≤ (top * 4294967296 + w2) * B := Int.mul_nonneg (by have := h.t0; have := h.w0; omega) (Int.le_of_lt h.bpos)
  have := h.u0
  omega

theorem Lead.qlt {u v top w2 f s B : Int} (h : Lead u v top w2 f s B) : u / v < 4294967296 :=
  Int.ediv_lt_of_lt_mul h.vpos (by rw [Int.mul_comm]; exact h.uv)

theorem Lead.start {u v top w2 f s B : Int} (h : Lead u v top w2 f s B) : Est u v top f (top / f) (top % f) := by
  have hf : 0 < f := by have := h.f0; omega
  refine ⟨by rw [Int.mul_comm]; exact Int.mul_ediv_add_emod top f, Int.emod_nonneg _ (by omega), Int.ediv_nonneg h.t0 (by omega), ?_⟩
  rw [Int.le_ediv_iff_mul_le hf]
  have hQ : u / v * v ≤ u := Int.ediv_mul_le u (by have := h.vpos; omega)
  have hQ0 : 0 ≤ u / v := Int.ediv_nonneg h.unonneg (Int.le_of_lt h.vpos)
  generalize u / v = Q at *
  rcases lt_or_ge_int top (Q * f) with hlt | hle
  · exfalso
    -- Q v ≥ Q f R B ≥ (top + 1) R B > u
    have a1 : (top + 1) * (4294967296 * B) ≤ Q * f * (4294967296 * B) := Int.mul_le_mul_of_nonneg_right (by omega) (by have := h.bpos; omega)
    have a2 : Q * ((f * 4294967296 + s) * B) ≤ Q * v := Int.mul_le_mul_of_nonneg_left h.v0 hQ0
    have a3 : Q * ((f * 4294967296 + s) * B) = Q * f * (4294967296 * B) + Q * (s * B) := by
      rw [Int.add_mul, Int.mul_add, Int.mul_assoc f, ← Int.mul_assoc Q f]
    have a4 : 0 ≤ Q * (s * B) := Int.mul_nonneg hQ0 (Int.mul_nonneg h.s0 (Int.le_of_lt h.bpos))
    have a5 : (top * 4294967296 + w2 + 1) * B ≤ (top + 1) * (4294967296 * B) := by
      rw [← Int.mul_assoc]
      exact Int.mul_le_mul_of_nonneg_right (by have := h.w1; omega) (Int.le_of_lt h.bpos)
    have := h.u1
    omega
  · exact hle

theorem Lead.lower {u v top w2 f s B q r : Int} (h : Lead u v top w2 f s B) (e : Est u v top f q r) (hc : 4294967295 < q ∨ r * 4294967296 + w2 < q * s) : u / v ≤ q - 1 := by
  rcases hc with hc | hc
  · have := h.qlt; omega
  · have hge := e.ge
    have hQ : u / v * v ≤ u := Int.ediv_mul_le u (by have := h.vpos; omega)
    rcases lt_or_ge_int (u / v) q with h1 | h1
    · omega
    · exfalso
      have hq : u / v = q := by omega
      rw [hq] at hQ
      have a2 : q * ((f * 4294967296 + s) * B) ≤ q * v := Int.mul_le_mul_of_nonneg_left h.v0 e.q0
      have a3 : q * ((f * 4294967296 + s) * B) = (q * f * 4294967296 + q * s) * B := by
        rw [← Int.mul_assoc, Int.mul_add, ← Int.mul_assoc q f]
      have a4 : (top * 4294967296 + w2 + 1) * B ≤ (q * f * 4294967296 + q * s) * B := by
        refine Int.mul_le_mul_of_nonneg_right ?_ (Int.le_of_lt h.bpos)
        have := e.qr
        omega
      have := h.u1
      omega

theorem Lead.step {u v top w2 f s B q r : Int} (h : Lead u v top w2 f s B) (e : Est u v top f q r) (hc : 4294967295 < q ∨ r * 4294967296 + w2 < q * s) : Est u v top f (q - 1) (r + f) := by
  have h1 := h.lower e hc
  have hQ0 : 0 ≤ u / v := Int.ediv_nonneg h.unonneg (Int.le_of_lt h.vpos)
  refine ⟨?_, by have := e.r0; have := h.f0; omega, by omega, h1⟩
  have := e.qr
  rw [Int.sub_mul]
  omega

theorem Lead.out {u v top w2 f s B q r : Int} (h : Lead u v top w2 f s B) (e : Est u v top f q r) (hc : 4294967295 < r ∨ (q ≤ 4294967295 ∧ q * s ≤ r * 4294967296 + w2)) : q ≤ 4294967295 ∧ q ≤ u / v + 1 := by
  have hv := h.vpos
  -- the first limbs of u are less than those of v, times the base
  have htop : top ≤ f * 4294967296 + 4294967295 := by
    rcases lt_or_ge_int (f * 4294967296 + 4294967295) top with h1 | h1
    · exfalso
      have a1 : (f * 4294967296 + s + 1) * B * 4294967296 ≤ (top * 4294967296 + w2) * B := by
        rw [Int.mul_assoc, Int.mul_comm B, ← Int.mul_assoc]
        exact Int.mul_le_mul_of_nonneg_right (by have := h.s1; have := h.w0; omega) (Int.le_of_lt h.bpos)
      have a2 : v * 4294967296 ≤ (f * 4294967296 + s + 1) * B * 4294967296 := Int.mul_le_mul_of_nonneg_right (Int.le_of_lt h.v1) (by omega)
      have := h.u0
      have := h.uv
      omega
    · exact h1
  have hqr := e.qr
  have hr0 := e.r0
  have hq0 := e.q0
  have hf0 := h.f0
  have hs0 := h.s0
  have hs1 := h.s1
  have hw0 := h.w0
  have hq : q ≤ 4294967295 := by
    rcases hc with hc | hc
    · rcases lt_or_ge_int 4294967295 q with h1 | h1
      · exfalso
        have := Int.mul_le_mul_of_nonneg_right (show 4294967296 ≤ q by omega) (show 0 ≤ f by omega)
        omega
      · exact h1
    · exact hc.1
  refine ⟨hq, ?_⟩
  -- (q - 1) v ≤ u
  suffices hs : (q - 1) * v ≤ u by
    have := (Int.le_ediv_iff_mul_le hv).2 hs
    omega
  rcases lt_or_ge_int q 1 with h1 | h1
  · have : (q - 1) * v ≤ 0 := by
      have := Int.mul_le_mul_of_nonneg_right (show q - 1 ≤ 0 by omega) (Int.le_of_lt hv)
      omega
    have := h.unonneg
    omega
  · have hB := h.bpos
    rcases hc with hc | ⟨_, hc⟩
    · have b1 : (q - 1) * v ≤ (q - 1) * ((f * 4294967296 + s + 1) * B) := Int.mul_le_mul_of_nonneg_left (Int.le_of_lt h.v1) (by omega)
      have b2 : (q - 1) * ((f * 4294967296 + s + 1) * B) = ((q - 1) * (f * 4294967296 + s + 1)) * B := by rw [Int.mul_assoc]
      have b3 : (q - 1) * (f * 4294967296 + s + 1) ≤ top * 4294967296 + w2 := by
        have c1 : (q - 1) * (f * 4294967296 + s + 1) = q * f * 4294967296 - f * 4294967296 + (q - 1) * (s + 1) := by
          rw [Int.add_assoc, Int.mul_add, ← Int.mul_assoc, Int.sub_mul, Int.one_mul, Int.sub_mul]
        have c2 : (q - 1) * (s + 1) ≤ 4294967294 * (s + 1) := Int.mul_le_mul_of_nonneg_right (by omega) (by omega)
        omega
      have b4 := Int.mul_le_mul_of_nonneg_right b3 (Int.le_of_lt hB)
      have := h.u0
      omega
    · have b1 : q * v ≤ q * ((f * 4294967296 + s + 1) * B) := Int.mul_le_mul_of_nonneg_left (Int.le_of_lt h.v1) (by omega)
      have b2 : q * ((f * 4294967296 + s + 1) * B) = (q * f * 4294967296 + q * s) * B + q * B := by
        rw [← Int.mul_assoc, Int.mul_add, Int.mul_add, Int.mul_one, ← Int.mul_assoc q f, Int.add_mul (_ + _) q B]
      have b3 : (q * f * 4294967296 + q * s) * B ≤ (top * 4294967296 + w2) * B := by
        refine Int.mul_le_mul_of_nonneg_right ?_ (Int.le_of_lt hB)
        omega
      have b4 : q * B ≤ (f * 4294967296 + s) * B := Int.mul_le_mul_of_nonneg_right (by omega) (Int.le_of_lt hB)
      have := h.u0
      have := h.v0
      have e1 : (q - 1) * v = q * v - v := by rw [Int.sub_mul, Int.one_mul]
      omega

end Go.Proofs.YthicfkeiggcjjaaGreatDoor

namespace Go.Proofs.YthicfkeiggcjjaaGreatDoor
open Go.RowKit

theorem mul_bounds' {x y : Int} (x0 : 0 ≤ x) (x1 : x < 4294967296) (y0 : 0 ≤ y) (y1 : y < 4294967296) : 0 ≤ x * y ∧ x * y ≤ 18446744065119617025 := by
  refine ⟨Int.mul_nonneg x0 y0, ?_⟩
  have h1 : x * y ≤ 4294967295 * y := Int.mul_le_mul_of_nonneg_right (by omega) y0
  omega

set_option maxRecDepth 100000 in
set_option maxHeartbeats 4000000 in
theorem estimate_any (u v t1 t0 w2 f s B : Int) (g i m cap bd od cd : Nat) (w : World) (h : Lead u v (t1 * 4294967296 + t0) w2 f s B) (hm : m ≤ 1000000000)
    (a1 : 0 ≤ t1) (a2 : t1 < 4294967296) (b1 : 0 ≤ t0) (b2 : t0 < 4294967296)
    (c1 : w.cell? ⟨g, i + (m + 2), none⟩ = some (.int .u32 t1)) (c2 : w.cell? ⟨g, i + (m + 1), none⟩ = some (.int .u32 t0)) (c3 : w.cell? ⟨g, i + m, none⟩ = some (.int .u32 w2))
    (d1 : w.cell? ⟨bd, od + (m + 1), none⟩ = some (.int .u32 f)) (d2 : w.cell? ⟨bd, od + m, none⟩ = some (.int .u32 s)) :
    Calls Tryz.prog 121 #[.slice (some ⟨g, i, none⟩) (m + 2 + 1) cap, .slice (some ⟨bd, od, none⟩) (m + 2) cd] w fun e w' => ∃ q, e = .returned (.int .u32 q) ∧ (u / v ≤ q ∧ q ≤ u / v + 1 ∧ 0 ≤ q ∧ q ≤ 4294967295) ∧ ∃ n, w' = w.drewN n := by
  have hor := or_hl a1 a2 b1 b2
  have f0 := h.f0
  have f1 := h.f1
  have s0 := h.s0
  have s1 := h.s1
  have w0 := h.w0
  have w1 := h.w1
  have m0 : (0 : Int) ≤ (m : Int) := by omega
  have e1 : ((m + 2 : Nat) : Int) = (m : Int) + 2 := by omega
  have H := Lib.hid h; clear h
  go_enter Tryz.func121, Tryz.ntmps121
  go_wp2
  go_quiet (fail)
  go_wp2
  go_quiet (fail)
  have hst := H.out.start
  have ht0 : 0 ≤ t1 * 4294967296 + t0 := by omega
  have ht1 : t1 * 4294967296 + t0 < 18446744073709551616 := by omega
  clear hor c1 c2 d1 d2 b1 b2 a1 a2
  generalize t1 * 4294967296 + t0 = top at *
  have q0 : 0 ≤ top / f := hst.q0
  have q1 : top / f ≤ 8589934592 := by
    have h1 : top / f ≤ top / 2147483648 := by
      rw [Int.le_ediv_iff_mul_le (by omega)]
      have h2 : top / f * 2147483648 ≤ top / f * f := Int.mul_le_mul_of_nonneg_left f0 q0
      have h3 := hst.qr
      have h4 := hst.r0
      omega
    omega
  have r0 : 0 ≤ top % f := hst.r0
  have r1 : top % f < f := Int.emod_lt_of_pos _ (by omega)
  have HST := Lib.hid hst; clear hst
  go_wp2
  go_quiet (fail)
  rw [World.drewN_drewN, World.drewN_drewN]
  go_wp2
  go_loop [9, 10] (fun a b => ∃ q r : Int, a = .int .u64 q ∧ b = .int .u64 r ∧ q ≤ 8589934592 ∧ r ≤ 8589934592 ∧ Est u v top f q r) (fun _ b => (8589934592 - intOf b).toNat)
  case atStart => exact ⟨_, _, rfl, rfl, q1, by omega, HST.out⟩
  case round =>
    obtain ⟨q, r, rfl, rfl, hq1, hr1, hE⟩ := hrel
    have hq0 := hE.q0
    have hr0 := hE.r0
    have HE := Lib.hid hE; clear hE
    clear q0 q1 r0 r1
    by_cases hr : r ≤ 4294967295
    · have hor := or_hl hr0 (by omega) w0 w1
      by_cases hq : 4294967295 < q
      · have hpos : 0 < q := by omega
        go_wp2
        go_roundw
        case rel => exact ⟨q - 1, r + f, rfl, rfl, by omega, by omega, H.out.step HE.out (.inl hq)⟩
        case measure => simp [intOf] <;> omega
      · obtain ⟨p0, p1⟩ := mul_bounds' hq0 (by omega) s0 s1
        by_cases hqs : r * 4294967296 + w2 < q * s
        · have hst := H.out.step HE.out (.inr hqs)
          have hpos : 0 < q := by have := hst.q0; omega
          have HS := Lib.hid hst; clear hst
          go_wp2
          go_roundw
          case rel => exact ⟨q - 1, r + f, rfl, rfl, by omega, by omega, HS.out⟩
          case measure => simp [intOf] <;> omega
        · have ho := H.out.out HE.out (.inr ⟨by omega, by omega⟩)
          go_wp2
          go_ret
          exact ⟨q, rfl, ⟨HE.out.ge, ho.2, hq0, by omega⟩, _, rfl⟩
    · have ho := H.out.out HE.out (.inl (by omega))
      obtain ⟨o1, o2⟩ := ho
      go_wp2
      go_ret
      exact ⟨q, rfl, ⟨HE.out.ge, o2, hq0, o1⟩, _, rfl⟩
end Go.Proofs.YthicfkeiggcjjaaGreatDoor
