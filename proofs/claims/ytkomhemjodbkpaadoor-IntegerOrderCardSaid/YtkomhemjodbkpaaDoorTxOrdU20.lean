import Derived.Test.YtkomhemjodbkpaaDoorTxOrdU19
import Derived.Test.YtkomhemjodbkpaaDoorTxOrdU16
namespace Go.Proofs.YtkomhemjodbkpaaDoor
open Go.RowKit

theorem mul_bounds' {x y : Int} (x0 : 0 ≤ x) (x1 : x < 4294967296) (y0 : 0 ≤ y) (y1 : y < 4294967296) : 0 ≤ x * y ∧ x * y ≤ 18446744065119617025 := by
  refine ⟨Int.mul_nonneg x0 y0, ?_⟩
  have h1 : x * y ≤ 4294967295 * y := Int.mul_le_mul_of_nonneg_right (by omega) y0
  omega

set_option maxRecDepth 100000 in
set_option maxHeartbeats 4000000 in
theorem estimate_any (u v t1 t0 w2 f s B : Int) (g i m cap bd od cd : Nat) (w : World) (h : Lead u v (t1 * 4294967296 + t0) w2 f s B) (hm : m ≤ 1000000000)
    (a1 : 0 ≤ t1) (a2 : t1 < 4294967296) (b1 : 0 ≤ t0) (b2 : t0 < 4294967296)
    (c1 : w.cell? ⟨g, i + (m + 2), none⟩ = some (.int .u32 t1)) (c2 : w.cell? ⟨g, i + (m + 1), none⟩ = some (.int .u32 t0)) (c3 : w.cell? ⟨g, i + m, none⟩ = some (.int .u32 w2))
    (d1 : w.cell? ⟨bd, od + (m + 1), none⟩ = some (.int .u32 f)) (d2 : w.cell? ⟨bd, od + m, none⟩ = some (.int .u32 s)) :
    Calls Tryd.prog 79 #[.slice (some ⟨g, i, none⟩) (m + 2 + 1) cap, .slice (some ⟨bd, od, none⟩) (m + 2) cd] w fun e w' => ∃ q, e = .returned (.int .u32 q) ∧ (u / v ≤ q ∧ q ≤ u / v + 1 ∧ 0 ≤ q ∧ q ≤ 4294967295) ∧ ∃ n, w' = w.drewN n := by
  have hor := or_hl a1 a2 b1 b2
  have f0 := h.f0
  have f1 := h.f1
  have s0 := h.s0
  have s1 := h.s1
  have w0 := h.w0
  have w1 := h.w1
  have m0 : (0 : Int) ≤ (m : Int) := by omega
  have e1 : ((m + 2 : Nat) : Int) = (m : Int) + 2 := by omega
  have H := Lib.hid h; clear h
  go_enter Tryd.func79, Tryd.ntmps79
  go_wp2
  go_quiet (fail)
  go_wp2
  go_quiet (fail)
  have hst := H.out.start
  have ht0 : 0 ≤ t1 * 4294967296 + t0 := by omega
  have ht1 : t1 * 4294967296 + t0 < 18446744073709551616 := by omega
  clear hor c1 c2 d1 d2 b1 b2 a1 a2
  generalize t1 * 4294967296 + t0 = top at *
  have q0 : 0 ≤ top / f := hst.q0
  have q1 : top / f ≤ 8589934592 := by
    have h1 : top / f ≤ top / 2147483648 := by
      rw [Int.le_ediv_iff_mul_le (by omega)]
      have h2 : top / f * 2147483648 ≤ top / f * f := Int.mul_le_mul_of_nonneg_left f0 q0
      have h3 := hst.qr
      have h4 := hst.r0
      omega
    omega
  have r0 : 0 ≤ top % f := hst.r0
  have r1 : top % f < f := Int.emod_lt_of_pos _ (by omega)
  have HST := Lib.hid hst; clear hst
  go_wp2
  go_quiet (fail)
  rw [World.drewN_drewN, World.drewN_drewN]
  go_wp2
  go_loop [9, 10] (fun a b => ∃ q r : Int, a = .int .u64 q ∧ b = .int .u64 r ∧ q ≤ 8589934592 ∧ r ≤ 8589934592 ∧ Est u v top f q r) (fun _ b => (8589934592 - intOf b).toNat)
  case atStart => exact ⟨_, _, rfl, rfl, q1, by omega, HST.out⟩
  case round =>
    obtain ⟨q, r, rfl, rfl, hq1, hr1, hE⟩ := hrel
    have hq0 := hE.q0
    have hr0 := hE.r0
    have HE := Lib.hid hE; clear hE
    clear q0 q1 r0 r1
    by_cases hr : r ≤ 4294967295
    · have hor := or_hl hr0 (by omega) w0 w1
      by_cases hq : 4294967295 < q
      · have hpos : 0 < q := by omega
        go_wp2
        go_roundw
        case rel => exact ⟨q - 1, r + f, rfl, rfl, by omega, by omega, H.out.step HE.out (.inl hq)⟩
        case measure => simp [intOf] <;> omega
      · obtain ⟨p0, p1⟩ := mul_bounds' hq0 (by omega) s0 s1
        by_cases hqs : r * 4294967296 + w2 < q * s
        · have hst := H.out.step HE.out (.inr hqs)
          have hpos : 0 < q := by have := hst.q0; omega
          have HS := Lib.hid hst; clear hst
          go_wp2
          go_roundw
          case rel => exact ⟨q - 1, r + f, rfl, rfl, by omega, by omega, HS.out⟩
          case measure => simp [intOf] <;> omega
        · have ho := H.out.out HE.out (.inr ⟨by omega, by omega⟩)
          go_wp2
          go_ret
          exact ⟨q, rfl, ⟨HE.out.ge, ho.2, hq0, by omega⟩, _, rfl⟩
    · have ho := H.out.out HE.out (.inl (by omega))
      obtain ⟨o1, o2⟩ := ho
      go_wp2
      go_ret
      exact ⟨q, rfl, ⟨HE.out.ge, o2, hq0, o1⟩, _, rfl⟩
end Go.Proofs.YtkomhemjodbkpaaDoor
