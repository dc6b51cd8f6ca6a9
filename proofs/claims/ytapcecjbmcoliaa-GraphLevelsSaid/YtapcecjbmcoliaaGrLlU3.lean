import Derived.Test.YtapcecjbmcoliaaGrLlU0
namespace Go.Proofs.Ytapcecjbmcoliaa

theorem lt_or_ge_int (a b : Int) : a < b ∨ b ≤ a := by omega

/-- the dividend u and the divisor v by their leading limbs: B is the weight of what is below -/
structure Lead (u v top w2 f s B : Int) : Prop where
  bpos : 0 < B
  u0 : (top * 4294967296 + w2) * B ≤ u
  u1 : u < (top * 4294967296 + w2 + 1) * B
  v0 : (f * 4294967296 + s) * B ≤ v
  v1 : v < (f * 4294967296 + s + 1) * B
  t0 : 0 ≤ top
  w0 : 0 ≤ w2
  w1 : w2 < 4294967296
  s0 : 0 ≤ s
  s1 : s < 4294967296
  f0 : 2147483648 ≤ f
  f1 : f < 4294967296
  uv : u < v * 4294967296

/-- q is not too small, and r is what it leaves of the first limbs -/
structure Est (u v top f q r : Int) : Prop where
  qr : q * f + r = top
  r0 : 0 ≤ r
  q0 : 0 ≤ q
  ge : u / v ≤ q

theorem Lead.vpos {u v top w2 f s B : Int} (h : Lead u v top w2 f s B) : 0 < v := by
  have h1 : 0 < (f * 4294967296 + s) * B := Int.mul_pos (by have := h.f0; have := h.s0; omega) h.bpos
  have := h.v0
  omega

theorem Lead.unonneg {u v top w2 f s B : Int} (h : Lead u v top w2 f s B) : 0 ≤ u := by
  have h1 : 0 ≤ (top * 4294967296 + w2) * B := Int.mul_nonneg (by have := h.t0; have := h.w0; omega) (Int.le_of_lt h.bpos)
  have := h.u0
  omega

theorem Lead.qlt {u v top w2 f s B : Int} (h : Lead u v top w2 f s B) : u / v < 4294967296 :=
  Int.ediv_lt_of_lt_mul h.vpos (by rw [Int.mul_comm]; exact h.uv)

theorem Lead.start {u v top w2 f s B : Int} (h : Lead u v top w2 f s B) : Est u v top f (top / f) (top % f) := by
  have hf : 0 < f := by have := h.f0; omega
  refine ⟨by rw [Int.mul_comm]; exact Int.mul_ediv_add_emod top f, Int.emod_nonneg _ (by omega), Int.ediv_nonneg h.t0 (by omega), ?_⟩
  rw [Int.le_ediv_iff_mul_le hf]
  have hQ : u / v * v ≤ u := Int.ediv_mul_le u (by have := h.vpos; omega)
  have hQ0 : 0 ≤ u / v := Int.ediv_nonneg h.unonneg (Int.le_of_lt h.vpos)
  generalize u / v = Q at *
  rcases lt_or_ge_int top (Q * f) with hlt | hle
  · exfalso
    -- Q v ≥ Q f R B ≥ (top + 1) R B > u
    have a1 : (top + 1) * (4294967296 * B) ≤ Q * f * (4294967296 * B) := Int.mul_le_mul_of_nonneg_right (by omega) (by have := h.bpos; omega)
    have a2 : Q * ((f * 4294967296 + s) * B) ≤ Q * v := Int.mul_le_mul_of_nonneg_left h.v0 hQ0
    have a3 : Q * ((f * 4294967296 + s) * B) = Q * f * (4294967296 * B) + Q * (s * B) := by
      rw [Int.add_mul, Int.mul_add, Int.mul_assoc f, ← Int.mul_assoc Q f]
    have a4 : 0 ≤ Q * (s * B) := Int.mul_nonneg hQ0 (Int.mul_nonneg h.s0 (Int.le_of_lt h.bpos))
    have a5 : (top * 4294967296 + w2 + 1) * B ≤ (top + 1) * (4294967296 * B) := by
      rw [← Int.mul_assoc]
      exact Int.mul_le_mul_of_nonneg_right (by have := h.w1; omega) (Int.le_of_lt h.bpos)
    have := h.u1
    omega
  · exact hle

theorem Lead.lower {u v top w2 f s B q r : Int} (h : Lead u v top w2 f s B) (e : Est u v top f q r) (hc : 4294967295 < q ∨ r * 4294967296 + w2 < q * s) : u / v ≤ q - 1 := by
  rcases hc with hc | hc
  · have := h.qlt; omega
  · have hge := e.ge
    have hQ : u / v * v ≤ u := Int.ediv_mul_le u (by have := h.vpos; omega)
    rcases lt_or_ge_int (u / v) q with h1 | h1
    · omega
    · exfalso
      have hq : u / v = q := by omega
      rw [hq] at hQ
      have a2 : q * ((f * 4294967296 + s) * B) ≤ q * v := Int.mul_le_mul_of_nonneg_left h.v0 e.q0
      have a3 : q * ((f * 4294967296 + s) * B) = (q * f * 4294967296 + q * s) * B := by
        rw [← Int.mul_assoc, Int.mul_add, ← Int.mul_assoc q f]
      have a4 : (top * 4294967296 + w2 + 1) * B ≤ (q * f * 4294967296 + q * s) * B := by
        refine Int.mul_le_mul_of_nonneg_right ?_ (Int.le_of_lt h.bpos)
        have := e.qr
        omega
      have := h.u1
      omega

theorem Lead.step {u v top w2 f s B q r : Int} (h : Lead u v top w2 f s B) (e : Est u v top f q r) (hc : 4294967295 < q ∨ r * 4294967296 + w2 < q * s) : Est u v top f (q - 1) (r + f) := by
  have h1 := h.lower e hc
  have hQ0 : 0 ≤ u / v := Int.ediv_nonneg h.unonneg (Int.le_of_lt h.vpos)
  refine ⟨?_, by have := e.r0; have := h.f0; omega, by omega, h1⟩
  have := e.qr
  rw [Int.sub_mul]
  omega

theorem Lead.out {u v top w2 f s B q r : Int} (h : Lead u v top w2 f s B) (e : Est u v top f q r) (hc : 4294967295 < r ∨ (q ≤ 4294967295 ∧ q * s ≤ r * 4294967296 + w2)) : q ≤ 4294967295 ∧ q ≤ u / v + 1 := by
  have hv := h.vpos
  -- the first limbs of u are less than those of v, times the base
  have htop : top ≤ f * 4294967296 + 4294967295 := by
    rcases lt_or_ge_int (f * 4294967296 + 4294967295) top with h1 | h1
    · exfalso
      have a1 : (f * 4294967296 + s + 1) * B * 4294967296 ≤ (top * 4294967296 + w2) * B := by
        rw [Int.mul_assoc, Int.mul_comm B, ← Int.mul_assoc]
        exact Int.mul_le_mul_of_nonneg_right (by have := h.s1; have := h.w0; omega) (Int.le_of_lt h.bpos)
      have a2 : v * 4294967296 ≤ (f * 4294967296 + s + 1) * B * 4294967296 := Int.mul_le_mul_of_nonneg_right (Int.le_of_lt h.v1) (by omega)
      have := h.u0
      have := h.uv
      omega
    · exact h1
  have hqr := e.qr
  have hr0 := e.r0
  have hq0 := e.q0
  have hf0 := h.f0
  have hs0 := h.s0
  have hs1 := h.s1
  have hw0 := h.w0
  have hq : q ≤ 4294967295 := by
    rcases hc with hc | hc
    · rcases lt_or_ge_int 4294967295 q with h1 | h1
      · exfalso
        have := Int.mul_le_mul_of_nonneg_right (show 4294967296 ≤ q by omega) (show 0 ≤ f by omega)
        omega
      · exact h1
    · exact hc.1
  refine ⟨hq, ?_⟩
  -- (q - 1) v ≤ u
  suffices hs : (q - 1) * v ≤ u by
    have := (Int.le_ediv_iff_mul_le hv).2 hs
    omega
  rcases lt_or_ge_int q 1 with h1 | h1
  · have : (q - 1) * v ≤ 0 := by
      have := Int.mul_le_mul_of_nonneg_right (show q - 1 ≤ 0 by omega) (Int.le_of_lt hv)
      omega
    have := h.unonneg
    omega
  · have hB := h.bpos
    rcases hc with hc | ⟨_, hc⟩
    · have b1 : (q - 1) * v ≤ (q - 1) * ((f * 4294967296 + s + 1) * B) := Int.mul_le_mul_of_nonneg_left (Int.le_of_lt h.v1) (by omega)
      have b2 : (q - 1) * ((f * 4294967296 + s + 1) * B) = ((q - 1) * (f * 4294967296 + s + 1)) * B := by rw [Int.mul_assoc]
      have b3 : (q - 1) * (f * 4294967296 + s + 1) ≤ top * 4294967296 + w2 := by
        have c1 : (q - 1) * (f * 4294967296 + s + 1) = q * f * 4294967296 - f * 4294967296 + (q - 1) * (s + 1) := by
          rw [Int.add_assoc, Int.mul_add, ← Int.mul_assoc, Int.sub_mul, Int.one_mul, Int.sub_mul]
        have c2 : (q - 1) * (s + 1) ≤ 4294967294 * (s + 1) := Int.mul_le_mul_of_nonneg_right (by omega) (by omega)
        omega
      have b4 := Int.mul_le_mul_of_nonneg_right b3 (Int.le_of_lt hB)
      have := h.u0
      omega
    · have b1 : q * v ≤ q * ((f * 4294967296 + s + 1) * B) := Int.mul_le_mul_of_nonneg_left (Int.le_of_lt h.v1) (by omega)
      have b2 : q * ((f * 4294967296 + s + 1) * B) = (q * f * 4294967296 + q * s) * B + q * B := by
        rw [← Int.mul_assoc, Int.mul_add, Int.mul_add, Int.mul_one, ← Int.mul_assoc q f, Int.add_mul (_ + _) q B]
      have b3 : (q * f * 4294967296 + q * s) * B ≤ (top * 4294967296 + w2) * B := by
        refine Int.mul_le_mul_of_nonneg_right ?_ (Int.le_of_lt hB)
        omega
      have b4 : q * B ≤ (f * 4294967296 + s) * B := Int.mul_le_mul_of_nonneg_right (by omega) (Int.le_of_lt hB)
      have := h.u0
      have := h.v0
      have e1 : (q - 1) * v = q * v - v := by rw [Int.sub_mul, Int.one_mul]
      omega

end Go.Proofs.Ytapcecjbmcoliaa
