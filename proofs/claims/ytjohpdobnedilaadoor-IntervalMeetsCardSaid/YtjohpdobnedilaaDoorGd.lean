/- What math/bits.Div32 does where it does not panic. -/
import Derived.Test.YtjohpdobnedilaaDoorGa
import Derived.Laws.Bits64
import Derived.Laws.Bits64b
import Derived.Deep.QuietTactic
import Derived.BigQuiet
import Derived.Test.YtjohpdobnedilaaDoorGb
import Derived.Laws.ShiftsVar
import Derived.Laws.ShiftsVarLaws
import Derived.BigRegion
import Derived.RegionTactic
import Derived.ChangeAlike
import Derived.Shelf.Small.Bits
import Derived.Test.YtjohpdobnedilaaDoorProg
namespace Go.Proofs.YtjohpdobnedilaaDoor
open Go.RowKit

theorem or_hl {h l : Int} (h0 : 0 ≤ h) (h1 : h < 4294967296) (l0 : 0 ≤ l) (l1 : l < 4294967296) : bits BinOp.or IntKind.u64 (h * 4294967296) l = h * 4294967296 + l := by
  obtain ⟨a, rfl⟩ := Int.eq_ofNat_of_zero_le h0
  obtain ⟨b, rfl⟩ := Int.eq_ofNat_of_zero_le l0
  have e := bits_or_u64_nat (a * 4294967296) b (by omega) (by omega)
  have e2 : a * 4294967296 ||| b = a * 4294967296 + b := by
    have := Nat.two_pow_add_eq_or_of_lt (i := 32) (b := b) (by omega) a
    rw [show (2 : Nat) ^ 32 = 4294967296 from rfl] at this
    rw [Nat.mul_comm a, ← this]
  rw [e2] at e
  simpa using e

end Go.Proofs.YtjohpdobnedilaaDoor

/- What integer.divideByLimb does: quotient and remainder by one limb. -/
namespace Go.Proofs.YtjohpdobnedilaaDoor
open Go.RowKit

/-- from limb k on the quotient stands in Q, and r is left -/
def Quot (L Q : List Int) (k : Nat) (r b : Int) : Prop :=
  Q.length = L.length ∧ Wf Q ∧ 0 ≤ r ∧ r < b ∧ num (L.drop k) = num (Q.drop k) * b + r

theorem num_drop (zs : List Int) (j : Nat) (h : j < zs.length) : num (zs.drop j) = zs.getD j 0 + 4294967296 * num (zs.drop (j + 1)) := by
  rw [List.drop_eq_getElem_cons h, ← getD_at h]; rfl

theorem Quot.step {L Q : List Int} {j : Nat} {r b : Int} (h : Quot L Q (j + 1) r b) (hj : j < L.length) (hq : 0 ≤ (r * 4294967296 + L.getD j 0) / b ∧ (r * 4294967296 + L.getD j 0) / b < 4294967296) (hb : 0 < b) :
    Quot L (Q.set j ((r * 4294967296 + L.getD j 0) / b)) j ((r * 4294967296 + L.getD j 0) % b) b := by
  obtain ⟨h1, h2, h3, h4, h5⟩ := h
  refine ⟨by simpa using h1, h2.set _ hq, Int.emod_nonneg _ (by omega), Int.emod_lt_of_pos _ hb, ?_⟩
  rw [num_drop L j hj, num_drop (Q.set j _) j (by simpa [h1] using hj), h5, List.drop_set_of_lt (by omega)]
  have e : (Q.set j ((r * 4294967296 + L.getD j 0) / b)).getD j 0 = (r * 4294967296 + L.getD j 0) / b := by
    simp [List.getD, h1, hj]
  rw [e]
  have ed := Int.mul_ediv_add_emod (r * 4294967296 + L.getD j 0) b
  rw [Int.mul_comm] at ed
  rw [Int.add_mul, Int.mul_assoc, Int.mul_add]
  omega

end Go.Proofs.YtjohpdobnedilaaDoor

/- What integer.divide does: quotient and remainder, where the dividend is less or the divisor has one limb. -/
namespace Go.Proofs.YtjohpdobnedilaaDoor
open Go.RowKit

end Go.Proofs.YtjohpdobnedilaaDoor

/- What integer.DivMod does, from what integer.divide does. -/
namespace Go.Proofs.YtjohpdobnedilaaDoor
open Go.RowKit

theorem boxes3 (w : World) (nb : Bool) (ao : Option Addr) (n cap : Nat) (mb : Bool) (bo : Option Addr) (m cb : Nat) :
    ∃ W, W = (((w.alloc (.cells #[.bool nb, .slice ao n cap] 41)).alloc (.cells #[.bool mb, .slice bo m cb] 41)).alloc (.cells #[.bool false, .slice none 0 0] 41)).alloc (.cells #[.bool false, .slice none 0 0] 41) ∧ Below w.heap.size w W ∧
      Box W w.heap.size nb ao n cap ∧ Box W (w.heap.size + 1) mb bo m cb ∧ Box W (w.heap.size + 1 + 1) false none 0 0 ∧ Box W (w.heap.size + 1 + 1 + 1) false none 0 0 ∧ w.heap.size + 4 ≤ W.heap.size := by
  obtain ⟨W, rfl, h1, h2, h3, h4, h5⟩ := boxes2 w nb ao n cap mb bo m cb
  have hn := Box.new (((w.alloc (.cells #[.bool nb, .slice ao n cap] 41)).alloc (.cells #[.bool mb, .slice bo m cb] 41)).alloc (.cells #[.bool false, .slice none 0 0] 41)) false none 0 0
  have hb := (Below.refl (((w.alloc (.cells #[.bool nb, .slice ao n cap] 41)).alloc (.cells #[.bool mb, .slice bo m cb] 41)).alloc (.cells #[.bool false, .slice none 0 0] 41)).heap.size _).alloc (Nat.le_refl _) (.cells #[.bool false, .slice none 0 0] 41)
  refine ⟨_, rfl, h1.trans (hb.mono (by omega)), h2.below hb, h3.below hb, h4.below hb, by simpa using hn, by simp⟩

theorem divmod_plain {nb mb : Bool} {zs ys : List Int} {x y : Int} (hz : Wf zs) (hw : Wf ys) (hx : x = sgd nb zs) (hy : y = sgd mb ys) (h0 : y ≠ 0) (hnr : nb = true → x.natAbs % y.natAbs = 0) :
    x / y = (if (nb != mb) then - (((num zs).toNat / (num ys).toNat : Nat) : Int) else (((num zs).toNat / (num ys).toNat : Nat) : Int)) ∧ x % y = (((num zs).toNat % (num ys).toNat : Nat) : Int) := by
  have a := num_nonneg hz
  have b := num_nonneg hw
  have ex : (num zs).toNat = x.natAbs := by rw [hx, sgd_natAbs hz]
  have ey : (num ys).toNat = y.natAbs := by rw [hy, sgd_natAbs hw]
  rw [ex, ey]
  have hpos : (0 : Int) < num ys := by
    rcases Int.lt_or_eq_of_le b with h | h
    · exact h
    · exfalso; apply h0; rw [hy]; unfold sgd; rw [← h]; cases mb <;> simp
  rw [← ex, ← ey] at hnr ⊢
  clear ex ey h0
  unfold sgd at hx hy
  generalize num zs = p at *
  generalize num ys = q at *
  obtain ⟨p', rfl⟩ := Int.eq_ofNat_of_zero_le a
  obtain ⟨q', rfl⟩ := Int.eq_ofNat_of_zero_le b
  simp only [Int.toNat_natCast] at hnr ⊢
  rw [Int.natCast_ediv, Int.natCast_emod]
  cases nb with
  | false =>
    simp only [Bool.false_eq_true, if_false] at hx
    cases mb with
    | false => simp only [Bool.false_eq_true, if_false] at hy; rw [hx, hy]; simp
    | true => simp only [if_true] at hy; rw [hx, hy, Int.ediv_neg, Int.emod_neg]; simp
  | true =>
    simp only [if_true] at hx
    have hd : (q' : Int) ∣ (p' : Int) := by
      have := Nat.dvd_of_mod_eq_zero (hnr rfl)
      exact Int.natCast_dvd_natCast.2 this
    have h1 : (-(p' : Int)) / q' = - ((p' : Int) / q') := Int.neg_ediv_of_dvd hd
    have h2 : (-(p' : Int)) % q' = 0 := Int.emod_eq_zero_of_dvd (Int.dvd_neg.2 hd)
    have h3 : (p' : Int) % q' = 0 := Int.emod_eq_zero_of_dvd hd
    cases mb with
    | false => simp only [Bool.false_eq_true, if_false] at hy; rw [hx, hy, h1, h2, h3]; simp
    | true => simp only [if_true] at hy; rw [hx, hy, Int.ediv_neg, Int.emod_neg, h1, h2, h3]; simp

/-- two integers are stored -/
theorem two_stored {w : World} {g h B : Nat} {nb mb : Bool} {ao bo : Option Addr} {n m ca cb : Nat} (hg : Box w g nb ao n ca) (hh : Box w h mb bo m cb) (hne : g ≠ h) (hBg : B ≤ g) (hBh : B ≤ h)
    (pb qb : Bool) (po qo : Option Addr) (pk qk pc qc : Nat) (P Q : List Int) (hp : Sl w po pk pc P) (hq : Sl w qo qk qc Q) :
    let W := (((w.setCell ⟨g, 0, none⟩ (.bool pb)).setCell ⟨g, 1, none⟩ (.slice po pk pc)).setCell ⟨h, 0, none⟩ (.bool qb)).setCell ⟨h, 1, none⟩ (.slice qo qk qc)
    Box W g pb po pk pc ∧ Box W h qb qo qk qc ∧ Sl W po pk pc P ∧ Sl W qo qk qc Q ∧ Below B w W := by
  have o1 := only_set2 w g (.bool pb) (.slice po pk pc)
  have g1 := hg.stored pb po pk pc
  have h1 := hh.only o1 (Ne.symm hne)
  have p1 := hp.only_box hg o1
  have q1 := hq.only_box hg o1
  have o2 := only_set2 ((w.setCell ⟨g, 0, none⟩ (.bool pb)).setCell ⟨g, 1, none⟩ (.slice po pk pc)) h (.bool qb) (.slice qo qk qc)
  exact ⟨g1.only o2 hne, h1.stored qb qo qk qc, p1.only_box h1 o2, q1.only_box h1 o2, (o1.below hBg).trans (o2.below hBh)⟩

theorem divmod_adj {mb : Bool} {zs ys : List Int} {x y : Int} (hz : Wf zs) (hw : Wf ys) (hx : x = sgd true zs) (hy : y = sgd mb ys) (h0 : y ≠ 0) (hnr : x.natAbs % y.natAbs ≠ 0) :
    x / y = (if (true != mb) then - (((num zs).toNat / (num ys).toNat + 1 : Nat) : Int) else (((num zs).toNat / (num ys).toNat + 1 : Nat) : Int)) ∧ x % y = (((num ys).toNat - (num zs).toNat % (num ys).toNat : Nat) : Int) := by
  have a := num_nonneg hz
  have b := num_nonneg hw
  have ex : (num zs).toNat = x.natAbs := by rw [hx, sgd_natAbs hz]
  have ey : (num ys).toNat = y.natAbs := by rw [hy, sgd_natAbs hw]
  have hpos : (num ys).toNat ≠ 0 := by
    rw [ey]; omega
  rw [← ex, ← ey] at hnr
  clear ex ey h0
  unfold sgd at hx hy
  generalize num zs = p at *
  generalize num ys = q at *
  obtain ⟨p', rfl⟩ := Int.eq_ofNat_of_zero_le a
  obtain ⟨q', rfl⟩ := Int.eq_ofNat_of_zero_le b
  simp only [Int.toNat_natCast] at hnr hpos ⊢
  simp only [if_true] at hx
  have hlt : p' % q' < q' := Nat.mod_lt _ (by omega)
  have hdm := Nat.div_add_mod p' q'
  have key : -(p' : Int) / q' = -((p' / q' + 1 : Nat) : Int) ∧ -(p' : Int) % q' = ((q' - p' % q' : Nat) : Int) := by
    refine (Int.ediv_emod_unique (by omega)).2 ⟨?_, by omega, by omega⟩
    have : (p' : Int) = q' * (p' / q' : Nat) + (p' % q' : Nat) := by rw [← Int.natCast_mul, ← Int.natCast_add, hdm]
    rw [Int.mul_neg, Int.natCast_add, Int.mul_add]
    omega
  cases mb with
  | false => simp only [Bool.false_eq_true, if_false] at hy; rw [hx, hy, key.1, key.2]; simp
  | true => simp only [if_true] at hy; rw [hx, hy, Int.ediv_neg, Int.emod_neg, key.1, key.2]; simp

end Go.Proofs.YtjohpdobnedilaaDoor

/- Plain facts on the estimate of a quotient from two limbs of the divisor (Knuth's algorithm D). No program stands here. -/
namespace Go.Proofs.YtjohpdobnedilaaDoor

theorem lt_or_ge_int (a b : Int) : a < b ∨ b ≤ a := by omega

/-- the dividend u and the divisor v by their leading limbs: B is the weight of what is below -/
structure Lead (u v top w2 f s B : Int) : Prop where
  bpos : 0 < B
  u0 : (top * 4294967296 + w2) * B ≤ u
  u1 : u < (top * 4294967296 + w2 + 1) * B
  v0 : (f * 4294967296 + s) * B ≤ v
  v1 : v < (f * 4294967296 + s + 1) * B
  t0 : 0 ≤ top
  w0 : 0 ≤ w2
  w1 : w2 < 4294967296
  s0 : 0 ≤ s
  s1 : s < 4294967296
  f0 : 2147483648 ≤ f
  f1 : f < 4294967296
  uv : u < v * 4294967296

/-- q is not too small, and r is what it leaves of the first limbs -/
structure Est (u v top f q r : Int) : Prop where
  qr : q * f + r = top
  r0 : 0 ≤ r
  q0 : 0 ≤ q
  ge : u / v ≤ q

theorem Lead.vpos {u v top w2 f s B : Int} (h : Lead u v top w2 f s B) : 0 < v := by
  have h1 : 0 < (f * 4294967296 + s) * B := Int.mul_pos (by have := h.f0; have := h.s0; omega) h.bpos
  have := h.v0
  omega

theorem Lead.unonneg {u v top w2 f s B : Int} (h : Lead u v top w2 f s B) : 0 ≤ u := by
  have h1 : 0 ≤ (top * 4294967296 + w2) * B := Int.mul_nonneg (by have := h.t0; have := h.w0; omega) (Int.le_of_lt h.bpos)
  have := h.u0
  omega

theorem Lead.qlt {u v top w2 f s B : Int} (h : Lead u v top w2 f s B) : u / v < 4294967296 :=
  Int.ediv_lt_of_lt_mul h.vpos (by rw [Int.mul_comm]; exact h.uv)

theorem Lead.start {u v top w2 f s B : Int} (h : Lead u v top w2 f s B) : Est u v top f (top / f) (top % f) := by
  have hf : 0 < f := by have := h.f0; omega
  refine ⟨by rw [Int.mul_comm]; exact Int.mul_ediv_add_emod top f, Int.emod_nonneg _ (by omega), Int.ediv_nonneg h.t0 (by omega), ?_⟩
  rw [Int.le_ediv_iff_mul_le hf]
  have hQ : u / v * v ≤ u := Int.ediv_mul_le u (by have := h.vpos; omega)
  have hQ0 : 0 ≤ u / v := Int.ediv_nonneg h.unonneg (Int.le_of_lt h.vpos)
  generalize u / v = Q at *
  rcases lt_or_ge_int top (Q * f) with hlt | hle
  · exfalso
    -- Q v ≥ Q f R B ≥ (top + 1) R B > u
    have a1 : (top + 1) * (4294967296 * B) ≤ Q * f * (4294967296 * B) := Int.mul_le_mul_of_nonneg_right (by omega) (by have := h.bpos; omega)
    have a2 : Q * ((f * 4294967296 + s) * B) ≤ Q * v := Int.mul_le_mul_of_nonneg_left h.v0 hQ0
    have a3 : Q * ((f * 4294967296 + s) * B) = Q * f * (4294967296 * B) + Q * (s * B) := by
      rw [Int.add_mul, Int.mul_add, Int.mul_assoc f, ← Int.mul_assoc Q f]
    have a4 : 0 ≤ Q * (s * B) := Int.mul_nonneg hQ0 (Int.mul_nonneg h.s0 (Int.le_of_lt h.bpos))
    have a5 : (top * 4294967296 + w2 + 1) * B ≤ (top + 1) * (4294967296 * B) := by
      rw [← Int.mul_assoc]
      exact Int.mul_le_mul_of_nonneg_right (by have := h.w1; omega) (Int.le_of_lt h.bpos)
    have := h.u1
    omega
  · exact hle

theorem Lead.lower {u v top w2 f s B q r : Int} (h : Lead u v top w2 f s B) (e : Est u v top f q r) (hc : 4294967295 < q ∨ r * 4294967296 + w2 < q * s) : u / v ≤ q - 1 := by
  rcases hc with hc | hc
  · have := h.qlt; omega
  · have hge := e.ge
    have hQ : u / v * v ≤ u := Int.ediv_mul_le u (by have := h.vpos; omega)
    rcases lt_or_ge_int (u / v) q with h1 | h1
    · omega
    · exfalso
      have hq : u / v = q := by omega
      rw [hq] at hQ
      have a2 : q * ((f * 4294967296 + s) * B) ≤ q * v := Int.mul_le_mul_of_nonneg_left h.v0 e.q0
      have a3 : q * ((f * 4294967296 + s) * B) = (q * f * 4294967296 + q * s) * B := by
        rw [← Int.mul_assoc, Int.mul_add, ← Int.mul_assoc q f]
      have a4 : (top * 4294967296 + w2 + 1) * B ≤ (q * f * 4294967296 + q * s) * B := by
        refine Int.mul_le_mul_of_nonneg_right ?_ (Int.le_of_lt h.bpos)
        have := e.qr
        omega
      have := h.u1
      omega

theorem Lead.step {u v top w2 f s B q r : Int} (h : Lead u v top w2 f s B) (e : Est u v top f q r) (hc : 4294967295 < q ∨ r * 4294967296 + w2 < q * s) : Est u v top f (q - 1) (r + f) := by
  have h1 := h.lower e hc
  have hQ0 : 0 ≤ u / v := Int.ediv_nonneg h.unonneg (Int.le_of_lt h.vpos)
  refine ⟨?_, by have := e.r0; have := h.f0; omega, by omega, h1⟩
  have := e.qr
  rw [Int.sub_mul]
  omega

theorem Lead.out {u v top w2 f s B q r : Int} (h : Lead u v top w2 f s B) (e : Est u v top f q r) (hc : 4294967295 < r ∨ (q ≤ 4294967295 ∧ q * s ≤ r * 4294967296 + w2)) : q ≤ 4294967295 ∧ q ≤ u / v + 1 := by
  have hv := h.vpos
  -- the first limbs of u are less than those of v, times the base
  have htop : top ≤ f * 4294967296 + 4294967295 := by
    rcases lt_or_ge_int (f * 4294967296 + 4294967295) top with h1 | h1
    · exfalso
      have a1 : (f * 4294967296 + s + 1) * B * 4294967296 ≤ (top * 4294967296 + w2) * B := by
        rw [Int.mul_assoc, Int.mul_comm B, ← Int.mul_assoc]
        exact Int.mul_le_mul_of_nonneg_right (by have := h.s1; have := h.w0; omega) (Int.le_of_lt h.bpos)
      have a2 : v * 4294967296 ≤ (f * 4294967296 + s + 1) * B * 4294967296 := Int.mul_le_mul_of_nonneg_right (Int.le_of_lt h.v1) (by omega)
      have := h.u0
      have := h.uv
      omega
    · exact h1
  have hqr := e.qr
  have hr0 := e.r0
  have hq0 := e.q0
  have hf0 := h.f0
  have hs0 := h.s0
  have hs1 := h.s1
  have hw0 := h.w0
  have hq : q ≤ 4294967295 := by
    rcases hc with hc | hc
    · rcases lt_or_ge_int 4294967295 q with h1 | h1
      · exfalso
        have := Int.mul_le_mul_of_nonneg_right (show 4294967296 ≤ q by omega) (show 0 ≤ f by omega)
        omega
      · exact h1
    · exact hc.1
  refine ⟨hq, ?_⟩
  -- (q - 1) v ≤ u
  suffices hs : (q - 1) * v ≤ u by
    have := (Int.le_ediv_iff_mul_le hv).2 hs
    omega
  rcases lt_or_ge_int q 1 with h1 | h1
  · have : (q - 1) * v ≤ 0 := by
      have := Int.mul_le_mul_of_nonneg_right (show q - 1 ≤ 0 by omega) (Int.le_of_lt hv)
      omega
    have := h.unonneg
    omega
  · have hB := h.bpos
    rcases hc with hc | ⟨_, hc⟩
    · have b1 : (q - 1) * v ≤ (q - 1) * ((f * 4294967296 + s + 1) * B) := Int.mul_le_mul_of_nonneg_left (Int.le_of_lt h.v1) (by omega)
      have b2 : (q - 1) * ((f * 4294967296 + s + 1) * B) = ((q - 1) * (f * 4294967296 + s + 1)) * B := by rw [Int.mul_assoc]
      have b3 : (q - 1) * (f * 4294967296 + s + 1) ≤ top * 4294967296 + w2 := by
        have c1 : (q - 1) * (f * 4294967296 + s + 1) = q * f * 4294967296 - f * 4294967296 + (q - 1) * (s + 1) := by
          rw [Int.add_assoc, Int.mul_add, ← Int.mul_assoc, Int.sub_mul, Int.one_mul, Int.sub_mul]
        have c2 : (q - 1) * (s + 1) ≤ 4294967294 * (s + 1) := Int.mul_le_mul_of_nonneg_right (by omega) (by omega)
        omega
      have b4 := Int.mul_le_mul_of_nonneg_right b3 (Int.le_of_lt hB)
      have := h.u0
      omega
    · have b1 : q * v ≤ q * ((f * 4294967296 + s + 1) * B) := Int.mul_le_mul_of_nonneg_left (Int.le_of_lt h.v1) (by omega)
      have b2 : q * ((f * 4294967296 + s + 1) * B) = (q * f * 4294967296 + q * s) * B + q * B := by
        rw [← Int.mul_assoc, Int.mul_add, Int.mul_add, Int.mul_one, ← Int.mul_assoc q f, Int.add_mul (_ + _) q B]
      have b3 : (q * f * 4294967296 + q * s) * B ≤ (top * 4294967296 + w2) * B := by
        refine Int.mul_le_mul_of_nonneg_right ?_ (Int.le_of_lt hB)
        omega
      have b4 : q * B ≤ (f * 4294967296 + s) * B := Int.mul_le_mul_of_nonneg_right (by omega) (Int.le_of_lt hB)
      have := h.u0
      have := h.v0
      have e1 : (q - 1) * v = q * v - v := by rw [Int.sub_mul, Int.one_mul]
      omega

end Go.Proofs.YtjohpdobnedilaaDoor

/- What integer.estimate does: the quotient of reduce, or one more. -/
namespace Go.Proofs.YtjohpdobnedilaaDoor
open Go.RowKit

theorem mul_bounds' {x y : Int} (x0 : 0 ≤ x) (x1 : x < 4294967296) (y0 : 0 ≤ y) (y1 : y < 4294967296) : 0 ≤ x * y ∧ x * y ≤ 18446744065119617025 := by
  refine ⟨Int.mul_nonneg x0 y0, ?_⟩
  have h1 : x * y ≤ 4294967295 * y := Int.mul_le_mul_of_nonneg_right (by omega) y0
  omega

end Go.Proofs.YtjohpdobnedilaaDoor

/- What integer.subProduct, addWrapping and reduce do to a window of a block. -/
namespace Go.Proofs.YtjohpdobnedilaaDoor
open Go.RowKit

/-- the limbs V stand in block g behind P and before T -/
def Mid (w : World) (g : Nat) (P V T : List Int) : Prop := Blk w g (P ++ (V ++ T))

theorem getD_mid (P V T : List Int) (j : Nat) (h : j < V.length) : (P ++ (V ++ T)).getD (P.length + j) 0 = V.getD j 0 := by
  simp [List.getD, List.getElem?_append_right, List.getElem?_append_left, h]
theorem set_mid (P V T : List Int) (j : Nat) (x : Int) (h : j < V.length) : (P ++ (V ++ T)).set (P.length + j) x = P ++ (V.set j x ++ T) := by
  rw [List.set_append_right _ _ (by omega), Nat.add_sub_cancel_left, List.set_append_left _ _ h]

theorem Mid.cell {w : World} {g i : Nat} {P V T : List Int} (h : Mid w g P V T) (hi : P.length = i) (j : Nat) (hj : j < V.length) : w.cell? ⟨g, i + j, none⟩ = some (.int .u32 (V.getD j 0)) := by
  subst hi
  have := Blk.cell h (P.length + j) (by simp; omega)
  rwa [getD_mid P V T j hj] at this
theorem Mid.frozen {w : World} {g : Nat} {P V T : List Int} (h : Mid w g P V T) (o : Nat) : w.frozen? ⟨g, o, none⟩ = false := Blk.frozen h o
theorem Mid.set {w : World} {g i : Nat} {P V T : List Int} (h : Mid w g P V T) (hi : P.length = i) (j : Nat) (x : Int) (hj : j < V.length) : Mid (w.setCell ⟨g, i + j, none⟩ (.int .u32 x)) g P (V.set j x) T := by
  subst hi
  have := Blk.set h (P.length + j) x
  rw [set_mid P V T j x hj] at this
  exact this

/-- one step of the subtraction of a product: c is what is carried and borrowed -/
theorem subp_word (x y q c b : Int) (x0 : 0 ≤ x) (x1 : x < 4294967296) (p0 : 0 ≤ y * q) (p1 : y * q ≤ 18446744065119617025) (c0 : 0 ≤ c) (c1 : c ≤ 4294967295) (b0 : 0 ≤ b) (b1 : b ≤ 1) :
    0 ≤ (c + y * q) / 4294967296 ∧ (c + y * q) / 4294967296 ≤ 4294967295 ∧
    0 ≤ IntKind.u64.wrap (IntKind.u64.wrap (x - (c + y * q) % 4294967296) - b) / 9223372036854775808 ∧ IntKind.u64.wrap (IntKind.u64.wrap (x - (c + y * q) % 4294967296) - b) / 9223372036854775808 ≤ 1 ∧
    IntKind.u64.wrap (IntKind.u64.wrap (x - (c + y * q) % 4294967296) - b) % 4294967296 =
      x - y * q - (c + b) + 4294967296 * ((c + y * q) / 4294967296 + IntKind.u64.wrap (IntKind.u64.wrap (x - (c + y * q) % 4294967296) - b) / 9223372036854775808) := by
  rw [IntKind.wrap_u64, IntKind.wrap_u64]
  generalize y * q = p at *
  omega

theorem and_mask {a : Int} (h0 : 0 ≤ a) (h1 : a < 18446744073709551616) : bits BinOp.and IntKind.u64 a 4294967295 = a % 4294967296 := by
  obtain ⟨n, rfl⟩ := Int.eq_ofNat_of_zero_le h0
  have e := bits_and_u64_nat n 4294967295 (by omega) (by omega)
  have e2 : n &&& 4294967295 = n % 4294967296 := by
    have := Nat.and_two_pow_sub_one_eq_mod n 32
    simpa using this
  rw [e2] at e
  rw [show ((4294967295 : Nat) : Int) = 4294967295 from rfl] at e
  rw [e]
  omega

theorem num_drop' (zs : List Int) (j : Nat) (h : j < zs.length) : num (zs.drop j) = zs.getD j 0 + 4294967296 * num (zs.drop (j + 1)) := by
  rw [List.drop_eq_getElem_cons h, ← getD_at h]; rfl

/-- the leading limbs of a window and of a divisor -/
theorem lead_of {V ds : List Int} {m : Nat} (hV : V.length = m + 2 + 1) (hd : ds.length = m + 2) (hwv : Wf V) (hwd : Wf ds) (htop : 2147483648 ≤ ds.getD (m + 1) 0) (huv : num V < num ds * 4294967296) :
    Lead (num V) (num ds) (V.getD (m + 2) 0 * 4294967296 + V.getD (m + 1) 0) (V.getD m 0) (ds.getD (m + 1) 0) (ds.getD m 0) (4294967296 ^ m) := by
  have e1 : num V = num (V.take m) + 4294967296 ^ m * ((V.getD (m + 2) 0 * 4294967296 + V.getD (m + 1) 0) * 4294967296 + V.getD m 0) := by
    have h := num_append (V.take m) (V.drop m)
    rw [List.take_append_drop, List.length_take, Nat.min_eq_left (by omega)] at h
    rw [h, num_drop' V m (by omega), num_drop' V (m + 1) (by omega), num_drop' V (m + 1 + 1) (by omega), List.drop_eq_nil_of_le (by omega : V.length ≤ m + 1 + 1 + 1)]
    simp only [num, show m + 1 + 1 = m + 2 from rfl]
    congr 2
    omega
  have e2 : num ds = num (ds.take m) + 4294967296 ^ m * (ds.getD (m + 1) 0 * 4294967296 + ds.getD m 0) := by
    have h := num_append (ds.take m) (ds.drop m)
    rw [List.take_append_drop, List.length_take, Nat.min_eq_left (by omega)] at h
    rw [h, num_drop' ds m (by omega), num_drop' ds (m + 1) (by omega), List.drop_eq_nil_of_le (by omega : ds.length ≤ m + 1 + 1)]
    simp only [num]
    congr 2
    omega
  have t1 := num_lt (hwv.take m)
  have t0 := num_nonneg (hwv.take m)
  have r1 := num_lt (hwd.take m)
  have r0 := num_nonneg (hwd.take m)
  rw [List.length_take, Nat.min_eq_left (by omega)] at t1 r1
  have g2 := hwv.getD (m + 2)
  have g1 := hwv.getD (m + 1)
  have g0 := hwv.getD m
  have f1 := hwd.getD (m + 1)
  have f0 := hwd.getD m
  refine ⟨pow_pos' m, ?_, ?_, ?_, ?_, by omega, g0.1, g0.2, f0.1, f0.2, htop, f1.2, huv⟩
  · rw [e1, Int.mul_comm]; omega
  · rw [e1, Int.add_mul _ 1, Int.one_mul, Int.mul_comm _ (4294967296 ^ m)]; omega
  · rw [e2, Int.mul_comm]; omega
  · rw [e2, Int.add_mul _ 1, Int.one_mul, Int.mul_comm _ (4294967296 ^ m)]; omega

theorem wrap_case {u v Q r q b N X : Int} (hdm : v * Q + r = u) (r0 : 0 ≤ r) (r1 : r < v) (q1 : Q ≤ q) (q2 : q ≤ Q + 1) (b0 : 0 ≤ b) (b1 : b ≤ 1) (hN : N = u - q * v + X * b) (n0 : 0 ≤ N) (n1 : N < X) :
    (b = 0 ∧ q = Q ∧ N = r) ∨ (b = 1 ∧ q = Q + 1 ∧ N = r - v + X) := by
  have hqc : q = Q ∨ q = Q + 1 := by omega
  have hbc : b = 0 ∨ b = 1 := by omega
  rcases hqc with rfl | rfl
  · rcases hbc with rfl | rfl
    · left
      rw [Int.mul_comm v q] at hdm
      refine ⟨rfl, rfl, ?_⟩
      rw [Int.mul_zero] at hN
      omega
    · exfalso
      rw [Int.mul_comm v q] at hdm
      rw [Int.mul_one] at hN
      omega
  · rw [Int.add_mul, Int.one_mul, Int.mul_comm Q v] at hN
    rcases hbc with rfl | rfl
    · exfalso
      rw [Int.mul_zero] at hN
      omega
    · right
      rw [Int.mul_one] at hN
      exact ⟨rfl, rfl, by omega⟩

theorem wrap_back {r c N X : Int} (c0 : 0 ≤ c) (r0 : 0 ≤ r) (r1 : r < X) (n0 : 0 ≤ N) (n1 : N < X) (h : N + X * c = r + X) : N = r := by
  have hc : c = 0 ∨ c = 1 ∨ 2 ≤ c := by omega
  rcases hc with rfl | rfl | hc
  · rw [Int.mul_zero] at h; omega
  · rw [Int.mul_one] at h; omega
  · have := Int.mul_le_mul_of_nonneg_left hc (show 0 ≤ X by omega)
    omega

end Go.Proofs.YtjohpdobnedilaaDoor

/- What integer.shiftUp does: the limbs of the number times a power of two. -/
namespace Go.Proofs.YtjohpdobnedilaaDoor
open Go.RowKit

theorem bits_or_u32_nat (a b : Nat) (ha : a < 4294967296) (hb : b < 4294967296) : bits BinOp.or IntKind.u32 (a : Int) (b : Int) = ((a ||| b : Nat) : Int) := by
  have hx : a ||| b < 2 ^ 32 := Nat.or_lt_two_pow (by omega) (by omega)
  have h1 : (BitVec.ofInt 32 (a : Int)).toNat = a := by
    rw [BitVec.ofInt_natCast, BitVec.toNat_ofNat]; exact Nat.mod_eq_of_lt (by omega)
  have h2 : (BitVec.ofInt 32 (b : Int)).toNat = b := by
    rw [BitVec.ofInt_natCast, BitVec.toNat_ofNat]; exact Nat.mod_eq_of_lt (by omega)
  show IntKind.u32.wrap ((BitVec.ofInt 32 (a : Int) ||| BitVec.ofInt 32 (b : Int)).toNat : Int) = _
  rw [BitVec.toNat_or, h1, h2]
  simp only [IntKind.wrap, IntKind.bits, IntKind.signed, Bool.false_and, Bool.false_eq_true, if_false]
  omega

theorem or_low {z q : Int} {k : Nat} (hk : k < 32) (z0 : 0 ≤ z) (z1 : z < 2 ^ k) (q0 : 0 ≤ q) (q1 : q * 2 ^ k < 4294967296) : bits BinOp.or IntKind.u32 z (q * 2 ^ k) = z + q * 2 ^ k := by
  obtain ⟨a, rfl⟩ := Int.eq_ofNat_of_zero_le z0
  obtain ⟨b, rfl⟩ := Int.eq_ofNat_of_zero_le q0
  have h1 : a < 2 ^ k := by
    have : ((a : Nat) : Int) < ((2 ^ k : Nat) : Int) := by rw [Int.natCast_pow]; exact z1
    exact Int.ofNat_lt.1 this
  have h2 : b * 2 ^ k < 4294967296 := by
    have : ((b * 2 ^ k : Nat) : Int) < ((4294967296 : Nat) : Int) := by rw [Int.natCast_mul, Int.natCast_pow]; exact q1
    exact Int.ofNat_lt.1 this
  have h3 : 2 ^ k < 2 ^ 32 := Nat.pow_lt_pow_right (by omega) hk
  have e := bits_or_u32_nat a (b * 2 ^ k) (by omega) h2
  have e2 : a ||| b * 2 ^ k = a + b * 2 ^ k := by
    have := Nat.two_pow_add_eq_or_of_lt h1 b
    rw [Nat.or_comm, Nat.mul_comm b, ← this]; omega
  rw [e2, Int.natCast_add, Int.natCast_mul, Int.natCast_pow] at e
  exact e

/-- one limb shifted: what stays, and what goes over -/
theorem limb_shift {y z : Int} {k : Nat} (hk : k < 32) (y0 : 0 ≤ y) (y1 : y < 4294967296) (z0 : 0 ≤ z) (z1 : z < 2 ^ k) :
    0 ≤ bits BinOp.or IntKind.u32 z (IntKind.u64.wrap (y * 2 ^ k) % 4294967296) ∧ bits BinOp.or IntKind.u32 z (IntKind.u64.wrap (y * 2 ^ k) % 4294967296) < 4294967296 ∧
    0 ≤ IntKind.u64.wrap (y * 2 ^ k) / 4294967296 % 4294967296 ∧ IntKind.u64.wrap (y * 2 ^ k) / 4294967296 % 4294967296 < 2 ^ k ∧ IntKind.u64.wrap (y * 2 ^ k) / 4294967296 % 4294967296 < 4294967296 ∧
    bits BinOp.or IntKind.u32 z (IntKind.u64.wrap (y * 2 ^ k) % 4294967296) + 4294967296 * (IntKind.u64.wrap (y * 2 ^ k) / 4294967296 % 4294967296) = z + y * 2 ^ k := by
  have hp : (0 : Int) < 2 ^ k := by exact Int.pow_pos (by omega)
  have hp2 : (2 : Int) ^ k * 2 ^ (32 - k) = 4294967296 := by rw [← Int.pow_add, show k + (32 - k) = 32 by omega]; rfl
  have hpr : (0 : Int) < 2 ^ (32 - k) := Int.pow_pos (by omega)
  have hw0 : 0 ≤ y * 2 ^ k := Int.mul_nonneg y0 (by omega)
  have hw1 : y * 2 ^ k < 4294967296 * 2 ^ k := Int.mul_lt_mul_of_pos_right y1 hp
  have hp32 : (2 : Int) ^ k ≤ 4294967296 := by
    rw [← hp2]
    have := Int.mul_le_mul_of_nonneg_left (show (1 : Int) ≤ 2 ^ (32 - k) by omega) (Int.le_of_lt hp)
    rwa [Int.mul_one] at this
  have hwr : IntKind.u64.wrap (y * 2 ^ k) = y * 2 ^ k := by
    rw [IntKind.wrap_u64]; exact Int.emod_eq_of_lt hw0 (by omega)
  rw [hwr]
  have hc1 : y * 2 ^ k / 4294967296 < 2 ^ k := Int.ediv_lt_of_lt_mul (by omega) (by rw [Int.mul_comm (2 ^ k) 4294967296]; exact hw1)
  have hc0 : 0 ≤ y * 2 ^ k / 4294967296 := Int.ediv_nonneg hw0 (by omega)
  have hcm : y * 2 ^ k / 4294967296 % 4294967296 = y * 2 ^ k / 4294967296 := Int.emod_eq_of_lt hc0 (by omega)
  rw [hcm]
  -- the low part is a multiple of 2^k
  have hq : y * 2 ^ k % 4294967296 = (y % 2 ^ (32 - k)) * 2 ^ k := by
    rw [← hp2, Int.mul_comm y, Int.mul_emod_mul_of_pos _ _ hp, Int.mul_comm]
  have hl1 : y * 2 ^ k % 4294967296 < 4294967296 := Int.emod_lt_of_pos _ (by omega)
  have hor := or_low (q := y % 2 ^ (32 - k)) hk z0 z1 (Int.emod_nonneg _ (by omega)) (by rw [← hq]; exact hl1)
  rw [hq, hor, ← hq]
  have hl0 : 0 ≤ y * 2 ^ k % 4294967296 := Int.emod_nonneg _ (by omega)
  -- z + low < R : both are below, and low ≤ R - 2^k
  have hle : y * 2 ^ k % 4294967296 + 2 ^ k ≤ 4294967296 := by
    rw [hq]
    have h1 : y % 2 ^ (32 - k) + 1 ≤ 2 ^ (32 - k) := Int.emod_lt_of_pos _ hpr
    have h2 := Int.mul_le_mul_of_nonneg_right h1 (Int.le_of_lt hp)
    rw [Int.add_mul, Int.one_mul, Int.mul_comm (2 ^ (32 - k)) (2 ^ k), hp2] at h2
    exact h2
  refine ⟨by omega, by omega, hc0, hc1, by omega, by omega⟩

/-- j limbs are shifted -/
def Up (zs Lj : List Int) (n s k j : Nat) : Prop :=
  Lj.length = s + n + 1 ∧ Wf Lj ∧ num Lj = num (zs.take j) * 4294967296 ^ s * 2 ^ k ∧ Lj.getD (s + j) 0 < 2 ^ k ∧ ∀ i, s + j < i → Lj.getD i 0 = 0

theorem getD_rep (n i : Nat) : (List.replicate n (0 : Int)).getD i 0 = 0 := by
  by_cases h : i < n <;> simp [List.getD, h]

theorem Up.start (zs : List Int) (n s k : Nat) : Up zs (List.replicate (s + n + 1) 0) n s k 0 :=
  ⟨by simp, Wf.replicate _, by simp [num_replicate, num], by rw [getD_rep]; exact Int.pow_pos (by omega), fun i _ => getD_rep _ i⟩

theorem Up.step {zs Lj : List Int} {n s k j : Nat} (h : Up zs Lj n s k j) (hj : j < n) (hz : zs.length = n) (a c : Int) (a0 : 0 ≤ a) (a1 : a < 4294967296) (c0 : 0 ≤ c) (c1 : c < 2 ^ k) (c2 : c < 4294967296)
    (he : a + 4294967296 * c = Lj.getD (s + j) 0 + zs.getD j 0 * 2 ^ k) : Up zs ((Lj.set (s + j) a).set (s + j + 1) c) n s k (j + 1) := by
  obtain ⟨h1, h2, h3, h4, h5⟩ := h
  refine ⟨by simp [h1], (h2.set _ ⟨a0, a1⟩).set _ ⟨c0, c2⟩, ?_, ?_, ?_⟩
  · rw [num_set _ _ _ (by simp; omega), num_set _ _ _ (by omega), h3, getD_set _ _ _ _ (by omega), if_neg (by omega), h5 (s + j + 1) (by omega), num_take_succ zs j (by omega)]
    have e1 : (4294967296 : Int) ^ (s + j + 1) * (c - 0) = 4294967296 ^ (s + j) * (4294967296 * c) := by
      rw [Int.pow_succ, Int.sub_zero, Int.mul_assoc]
    have e2 : (4294967296 : Int) ^ (s + j) * (a - Lj.getD (s + j) 0) + 4294967296 ^ (s + j) * (4294967296 * c) = 4294967296 ^ (s + j) * (zs.getD j 0 * 2 ^ k) := by
      rw [← Int.mul_add]
      congr 1
      omega
    have e3 : (4294967296 : Int) ^ (s + j) * (zs.getD j 0 * 2 ^ k) = 4294967296 ^ j * zs.getD j 0 * 4294967296 ^ s * 2 ^ k := by
      rw [Int.pow_add]
      simp only [Int.mul_assoc, Int.mul_comm, Int.mul_left_comm]
    rw [e1, Int.add_assoc, e2, e3, Int.add_mul, Int.add_mul]
  · rw [show s + (j + 1) = s + j + 1 by omega, getD_set _ _ _ _ (by simp; omega), if_pos rfl]
    exact c1
  · intro i hi
    rw [getD_set _ _ _ _ (by simp; omega), if_neg (by omega), getD_set _ _ _ _ (by omega), if_neg (by omega)]
    exact h5 i (by omega)

end Go.Proofs.YtjohpdobnedilaaDoor

/- What integer.shiftDown does: the limbs of the number divided by a power of two. -/
namespace Go.Proofs.YtjohpdobnedilaaDoor
open Go.RowKit

/-- the limbs below j are shifted down, the others not yet -/
def Down (ds Lj : List Int) (m k j : Nat) : Prop :=
  Lj.length = m ∧ Wf Lj ∧ Lj.drop j = ds.drop j ∧ ds.length = m ∧ ∀ i, i < j → Lj.getD i 0 = ds.getD i 0 / 2 ^ k + ds.getD (i + 1) 0 % 2 ^ k * 2 ^ (32 - k)

theorem Down.start {ds : List Int} {m k : Nat} (h : ds.length = m) (hw : Wf ds) : Down ds ds m k 0 := ⟨h, hw, rfl, h, fun i hi => absurd hi (by omega)⟩

theorem pow_split {k : Nat} (hk : k < 32) : (2 : Int) ^ k * 2 ^ (32 - k) = 4294967296 := by rw [← Int.pow_add, show k + (32 - k) = 32 by omega]; rfl

/-- one limb shifted down, with the bits of the next one -/
theorem limb_down {y z : Int} {k : Nat} (hk : k < 32) (y0 : 0 ≤ y) (y1 : y < 4294967296) :
    bits BinOp.or IntKind.u32 (y / 2 ^ k) (z * 2 ^ (32 - k) % 4294967296) = y / 2 ^ k + z % 2 ^ k * 2 ^ (32 - k) ∧ 0 ≤ y / 2 ^ k + z % 2 ^ k * 2 ^ (32 - k) ∧ y / 2 ^ k + z % 2 ^ k * 2 ^ (32 - k) < 4294967296 := by
  have hp : (0 : Int) < 2 ^ k := Int.pow_pos (by omega)
  have hpr : (0 : Int) < 2 ^ (32 - k) := Int.pow_pos (by omega)
  have hp2 := pow_split hk
  have a0 : 0 ≤ y / 2 ^ k := Int.ediv_nonneg y0 (by omega)
  have a1 : y / 2 ^ k < 2 ^ (32 - k) := Int.ediv_lt_of_lt_mul hp (by rw [Int.mul_comm, hp2]; exact y1)
  have hq : z * 2 ^ (32 - k) % 4294967296 = z % 2 ^ k * 2 ^ (32 - k) := by
    rw [← hp2, Int.mul_comm z, Int.mul_comm (2 ^ k), Int.mul_emod_mul_of_pos _ _ hpr, Int.mul_comm]
  have q0 : 0 ≤ z % 2 ^ k := Int.emod_nonneg _ (by omega)
  have q1 : z % 2 ^ k + 1 ≤ 2 ^ k := Int.emod_lt_of_pos _ hp
  have h2 := Int.mul_le_mul_of_nonneg_right q1 (Int.le_of_lt hpr)
  rw [hp2, Int.add_mul, Int.one_mul] at h2
  have h3 : 0 ≤ z % 2 ^ k * 2 ^ (32 - k) := Int.mul_nonneg q0 (Int.le_of_lt hpr)
  rw [hq]
  refine ⟨?_, by omega, by omega⟩
  by_cases h0 : k = 0
  · subst h0
    have e : z % 2 ^ 0 * 2 ^ (32 - 0) = 0 := by simp [Int.emod_one]
    rw [e]
    obtain ⟨a, ha⟩ := Int.eq_ofNat_of_zero_le a0
    rw [ha]
    have := bits_or_u32_nat a 0 (by simp at a1; omega) (by omega)
    simpa using this
  · exact or_low (by omega) a0 a1 q0 (by omega)

theorem Down.step {ds Lj : List Int} {m k j : Nat} (h : Down ds Lj m k j) (hj : j < m) (v : Int) (hv : v = ds.getD j 0 / 2 ^ k + ds.getD (j + 1) 0 % 2 ^ k * 2 ^ (32 - k)) (h0 : 0 ≤ v ∧ v < 4294967296) :
    Down ds (Lj.set j v) m k (j + 1) := by
  obtain ⟨h1, h2, h3, h4, h5⟩ := h
  refine ⟨by simp [h1], h2.set _ h0, ?_, h4, ?_⟩
  · have : (Lj.drop j).drop 1 = (ds.drop j).drop 1 := by rw [h3]
    rw [List.drop_drop, List.drop_drop] at this
    rw [← this, List.drop_set_of_lt (by omega)]
  · intro i hi
    rw [getD_set _ _ _ _ (by omega)]
    by_cases he : j = i
    · subst he; rw [if_pos rfl]; exact hv
    · rw [if_neg he]; exact h5 i (by omega)

/-- all limbs shifted down -/
def shr (k : Nat) : List Int → List Int
  | [] => []
  | z :: rest => (z / 2 ^ k + rest.getD 0 0 % 2 ^ k * 2 ^ (32 - k)) :: shr k rest

theorem shr_length (k : Nat) (ds : List Int) : (shr k ds).length = ds.length := by
  induction ds with
  | nil => rfl
  | cons z r ih => simp [shr, ih]
theorem shr_getD (k : Nat) (ds : List Int) (i : Nat) (h : i < ds.length) : (shr k ds).getD i 0 = ds.getD i 0 / 2 ^ k + ds.getD (i + 1) 0 % 2 ^ k * 2 ^ (32 - k) := by
  induction ds generalizing i with
  | nil => simp at h
  | cons z r ih =>
    cases i with
    | zero => simp [shr]
    | succ i =>
      have := ih i (by simpa using h)
      simpa [shr] using this

theorem num_shr {k : Nat} (hk : k < 32) (ds : List Int) : num (shr k ds) = num ds / 2 ^ k := by
  have hp : (0 : Int) < 2 ^ k := Int.pow_pos (by omega)
  have hp2 := pow_split hk
  induction ds with
  | nil => simp [shr, num]
  | cons z r ih =>
    simp only [shr, num, ih]
    have e1 : (z + 4294967296 * num r) / 2 ^ k = z / 2 ^ k + 2 ^ (32 - k) * num r := by
      rw [← hp2, Int.mul_assoc, Int.add_mul_ediv_left _ _ (by omega)]
    have e2 : num r % 2 ^ k = r.getD 0 0 % 2 ^ k := by
      cases r with
      | nil => simp [num]
      | cons h t =>
        simp only [num, List.getD_cons_zero]
        rw [← hp2, Int.mul_assoc, Int.add_mul_emod_self_left]
    have e3 := Int.mul_ediv_add_emod (num r) (2 ^ k)
    rw [e1, ← e2]
    have e4 : 2 ^ (32 - k) * num r = 4294967296 * (num r / 2 ^ k) + num r % 2 ^ k * 2 ^ (32 - k) := by
      have : 2 ^ (32 - k) * num r = 2 ^ (32 - k) * (2 ^ k * (num r / 2 ^ k) + num r % 2 ^ k) := by rw [e3]
      rw [this, Int.mul_add, ← Int.mul_assoc, Int.mul_comm (2 ^ (32 - k)) (2 ^ k), hp2, Int.mul_comm (2 ^ (32 - k)) (num r % 2 ^ k)]
    rw [e4]
    omega

theorem Down.done {ds Lj : List Int} {m k : Nat} (hk : k < 32) (h : Down ds Lj m k m) : num Lj = num ds / 2 ^ k := by
  obtain ⟨h1, _, _, h4, h5⟩ := h
  have : Lj = shr k ds := by
    apply List.ext_getElem (by rw [h1, shr_length, h4])
    intro i hi hi2
    rw [← getD_at hi, ← getD_at hi2, h5 i (by omega), shr_getD k ds i (by omega)]
  rw [this, num_shr hk]

theorem pow_le' {a b : Nat} (h : a ≤ b) : 4294967296 ^ a ≤ 4294967296 ^ b := Nat.pow_le_pow_right (by omega) h

theorem num_drop_div {zs : List Int} (h : Wf zs) (s : Nat) (hs : s ≤ zs.length) : num (zs.drop s) = num zs / 4294967296 ^ s := by
  have e := num_append (zs.take s) (zs.drop s)
  rw [List.take_append_drop, List.length_take, Nat.min_eq_left hs] at e
  have h1 := num_lt (h.take s)
  rw [List.length_take, Nat.min_eq_left hs] at h1
  have h0 := num_nonneg (h.take s)
  rw [e, Int.add_mul_ediv_left _ _ (Int.ne_of_gt (pow_pos' s)), Int.ediv_eq_zero_of_lt h0 h1]
  omega

theorem pow32 (s k : Nat) : (2 : Nat) ^ (s * 32 + k) = 4294967296 ^ s * 2 ^ k := by
  rw [Nat.pow_add, Nat.mul_comm s 32, Nat.pow_mul]

end Go.Proofs.YtjohpdobnedilaaDoor

/- The library's contracts for functions of Go's library, at this program. -/
namespace Go.Proofs
open Go.Shelf
def Tryd.lays128_ren : Go.Shelf.Ren := ⟨fun | 128 => 83 | n => n, fun | 51 => 64 | 3 => 3 | 4 => 4 | 46 => 62 | 5 => 5 | 9 => 9 | n => n, fun | n => n⟩
theorem Tryd.lays128 : Go.Proofs.Lays.n128 Tryd.prog Tryd.lays128_ren := {
  mixed := by kernel_rfl
  f128 := Tryd.func83.trans (congrArg some (by kernel_rfl))
  t3 := Tryd.underlying3
  a3 := Tryd.isAgg3
  z3 := Tryd.sizeOf3
  v3 := Tryd.zeroValue3
  t4 := Tryd.underlying4
  a4 := Tryd.isAgg4
  z4 := Tryd.sizeOf4
  v4 := Tryd.zeroValue4
  t5 := Tryd.underlying5
  a5 := Tryd.isAgg5
  z5 := Tryd.sizeOf5
  v5 := Tryd.zeroValue5
  t9 := Tryd.underlying9
  a9 := Tryd.isAgg9
  z9 := Tryd.sizeOf9
  v9 := Tryd.zeroValue9
  t46 := Tryd.underlying62
  a46 := Tryd.isAgg62
  z46 := Tryd.sizeOf62
  v46 := Tryd.zeroValue62
  t51 := Tryd.underlying64
  a51 := Tryd.isAgg64
  z51 := Tryd.sizeOf64
  v51 := Tryd.zeroValue64 }
theorem Tryd.bits_Len32 (x : Int) (w : World) (h0 : 0 ≤ x) (h1 : x ≤ 4294967295) :
    Calls Tryd.prog 83 #[.int .u32 x] w fun e w' => e = .returned (.int .i64 (Lib.bitLen x.toNat)) ∧ w' = w := Any.bits_Len32 Tryd.lays128 x w h0 h1
end Go.Proofs

/- What integer.divide does where the divisor has two limbs or more (Knuth's algorithm D). -/
namespace Go.Proofs.YtjohpdobnedilaaDoor
open Go.RowKit

theorem bitLen_zero : Lib.bitLen 0 = 0 := by unfold Lib.bitLen; unfold Lib.bitLenAux; simp

theorem bitLen_spec (x : Nat) (h0 : x ≠ 0) (h : x < 2 ^ 64) : ∃ l, Lib.bitLen x = l + 1 ∧ 2 ^ l ≤ x ∧ x < 2 ^ (l + 1) := by
  induction x using Nat.strongRecOn with
  | _ x ih =>
    by_cases h1 : x / 2 = 0
    · refine ⟨0, ?_, by omega, by omega⟩
      rw [Lib.bitLen_half x h0 h, h1, bitLen_zero]
    · obtain ⟨l, e, l0, l1⟩ := ih (x / 2) (by omega) h1 (by omega)
      refine ⟨l + 1, ?_, ?_, ?_⟩
      · rw [Lib.bitLen_half x h0 h, e]; omega
      · rw [Nat.pow_succ]; omega
      · rw [Nat.pow_succ] at l1 ⊢; omega

/-- the shift that puts a one into the top bit of the divisor -/
theorem norm_shift {b m : Nat} (hm : (limbs b).length = m + 1) :
    ∃ k : Nat, k < 32 ∧ 32 - (Lib.bitLen ((limbs b).getD m 0).toNat : Int) = (k : Int) ∧ (limbs (b * 2 ^ k)).length = m + 1 ∧ 2147483648 ≤ (limbs (b * 2 ^ k)).getD m 0 := by
  have h1 : b < 4294967296 ^ (m + 1) := (limbs_len_le b (m + 1)).1 (by omega)
  have h2 : 4294967296 ^ m ≤ b := by
    rcases Nat.lt_or_ge b (4294967296 ^ m) with h | h
    · have := (limbs_len_le b m).2 h; omega
    · exact h
  have hpm : 0 < 4294967296 ^ m := Nat.pos_of_ne_zero (by simp)
  have hd1 : b / 4294967296 ^ m < 4294967296 := by
    rw [Nat.div_lt_iff_lt_mul hpm, Nat.mul_comm, ← Nat.pow_succ]; exact h1
  have hd0 : 0 < b / 4294967296 ^ m := Nat.div_pos h2 hpm
  have ht : (limbs b).getD m 0 = ((b / 4294967296 ^ m : Nat) : Int) := by
    rw [limbs_at, Nat.mod_eq_of_lt hd1]
  rw [ht, Int.toNat_natCast]
  generalize htt : b / 4294967296 ^ m = t at *
  obtain ⟨l, e, l0, l1⟩ := bitLen_spec t (by omega) (by omega)
  have hl : l < 32 := by
    rcases Nat.lt_or_ge l 32 with h | h
    · exact h
    · have := Nat.pow_le_pow_right (show 0 < 2 by omega) h
      omega
  refine ⟨31 - l, by omega, by rw [e]; omega, ?_, ?_⟩
  all_goals
    have hp : 2 ^ (31 - l) * 2 ^ l = 2147483648 := by rw [← Nat.pow_add, show 31 - l + l = 31 by omega]
    have hp2 : 2 ^ (31 - l) * 2 ^ (l + 1) = 4294967296 := by rw [← Nat.pow_add, show 31 - l + (l + 1) = 32 by omega]
    have hk0 : 0 < 2 ^ (31 - l) := Nat.pos_of_ne_zero (by simp)
    -- b 2^k / R^m = ..
    have hb1 : b < (t + 1) * 4294967296 ^ m := by
      rw [← htt, Nat.add_mul, Nat.one_mul, Nat.mul_comm (b / 4294967296 ^ m)]
      have := Nat.div_add_mod b (4294967296 ^ m)
      have := Nat.mod_lt b hpm
      omega
    have hb0 : t * 4294967296 ^ m ≤ b := by rw [← htt]; exact Nat.div_mul_le_self _ _
    have hv1 : b * 2 ^ (31 - l) < 4294967296 ^ (m + 1) := by
      have a1 : b * 2 ^ (31 - l) < (t + 1) * 4294967296 ^ m * 2 ^ (31 - l) := Nat.mul_lt_mul_of_pos_right hb1 hk0
      have a2 : (t + 1) * 4294967296 ^ m * 2 ^ (31 - l) ≤ 2 ^ (l + 1) * 4294967296 ^ m * 2 ^ (31 - l) := Nat.mul_le_mul_right _ (Nat.mul_le_mul_right _ (by omega))
      have a3 : 2 ^ (l + 1) * 4294967296 ^ m * 2 ^ (31 - l) = 4294967296 ^ (m + 1) := by
        rw [Nat.mul_right_comm, Nat.mul_comm (2 ^ (l + 1)), hp2, Nat.pow_succ, Nat.mul_comm]
      omega
    have hv0 : 2147483648 * 4294967296 ^ m ≤ b * 2 ^ (31 - l) := by
      have a1 : 2 ^ l * 4294967296 ^ m * 2 ^ (31 - l) ≤ b * 2 ^ (31 - l) := Nat.mul_le_mul_right _ (Nat.le_trans (Nat.mul_le_mul_right _ l0) hb0)
      have a3 : 2 ^ l * 4294967296 ^ m * 2 ^ (31 - l) = 2147483648 * 4294967296 ^ m := by
        rw [Nat.mul_right_comm, Nat.mul_comm (2 ^ l), hp]
      omega
  · have g1 := (limbs_len_le (b * 2 ^ (31 - l)) (m + 1)).2 hv1
    rcases Nat.lt_or_ge (limbs (b * 2 ^ (31 - l))).length (m + 1) with h | h
    · exfalso
      have g2 := (limbs_len_le (b * 2 ^ (31 - l)) m).1 (by omega)
      omega
    · omega
  · rw [limbs_at]
    have g1 : 2147483648 ≤ b * 2 ^ (31 - l) / 4294967296 ^ m := (Nat.le_div_iff_mul_le hpm).2 hv0
    have g2 : b * 2 ^ (31 - l) / 4294967296 ^ m < 4294967296 := by
      rw [Nat.div_lt_iff_lt_mul hpm]
      rw [Nat.pow_succ, Nat.mul_comm (4294967296 ^ m)] at hv1
      exact hv1
    rw [Nat.mod_eq_of_lt g2]
    omega

/-- from limb j on the quotient stands in Q, and what is left in U is less than v at that place -/
def Knuth (u v : Int) (U Q : List Int) (nu nq j : Nat) : Prop :=
  U.length = nu ∧ Q.length = nq ∧ Wf U ∧ Wf Q ∧ u = num U + v * (4294967296 ^ j * num (Q.drop j)) ∧ num U < v * 4294967296 ^ j

theorem Knuth.window {u v : Int} {U Q : List Int} {nu nq t m : Nat} (h : Knuth u v U Q nu nq (t + 1)) (hv1 : v < 4294967296 ^ m) (hl : t + (m + 1) ≤ nu) :
    num U = num (U.take t) + 4294967296 ^ t * num ((U.drop t).take (m + 1)) ∧ num (U.drop (t + (m + 1))) = 0 ∧ num ((U.drop t).take (m + 1)) < v * 4294967296 := by
  obtain ⟨h1, h2, h3, h4, h5, h6⟩ := h
  have e1 := num_append (U.take t) (U.drop t)
  have e2 := num_append ((U.drop t).take (m + 1)) ((U.drop t).drop (m + 1))
  rw [List.take_append_drop, List.length_take, Nat.min_eq_left (by omega)] at e1
  rw [List.take_append_drop, List.length_take, List.length_drop, Nat.min_eq_left (by omega), List.drop_drop] at e2
  have p0 := num_nonneg (h3.take t)
  have v0 := num_nonneg ((h3.drop t).take (m + 1))
  have t0 := num_nonneg (h3.drop (t + (m + 1)))
  have hpt := pow_pos' t
  have hT : num (U.drop (t + (m + 1))) = 0 := by
    rcases Int.lt_or_eq_of_le t0 with hlt | heq
    · exfalso
      have a1 : (4294967296 : Int) ^ (m + 1) * 1 ≤ 4294967296 ^ (m + 1) * num (U.drop (t + (m + 1))) := Int.mul_le_mul_of_nonneg_left (by omega) (Int.le_of_lt (pow_pos' _))
      have a2 : (4294967296 : Int) ^ t * 4294967296 ^ (m + 1) ≤ 4294967296 ^ t * num (U.drop t) := Int.mul_le_mul_of_nonneg_left (by omega) (Int.le_of_lt hpt)
      have a3 : v * 4294967296 ^ (t + 1) ≤ 4294967296 ^ t * 4294967296 ^ (m + 1) := by
        have := Int.mul_le_mul_of_nonneg_right (Int.le_of_lt hv1) (Int.le_of_lt (pow_pos' (t + 1)))
        have e : (4294967296 : Int) ^ m * 4294967296 ^ (t + 1) = 4294967296 ^ t * 4294967296 ^ (m + 1) := by
          rw [← Int.pow_add, ← Int.pow_add, show m + (t + 1) = t + (m + 1) by omega]
        rw [e] at this
        exact this
      omega
    · exact heq.symm
  rw [hT, Int.mul_zero, Int.add_zero] at e2
  rw [e2] at e1
  refine ⟨e1, hT, ?_⟩
  rcases lt_or_ge_int (num ((U.drop t).take (m + 1))) (v * 4294967296) with hlt | hge
  · exact hlt
  · exfalso
    have a1 := Int.mul_le_mul_of_nonneg_left hge (Int.le_of_lt hpt)
    have a2 : (4294967296 : Int) ^ t * (v * 4294967296) = v * 4294967296 ^ (t + 1) := by rw [Int.pow_succ, Int.mul_left_comm]
    omega

theorem Knuth.step {u v : Int} {U Q V' : List Int} {nu nq t m : Nat} (h : Knuth u v U Q nu nq (t + 1)) (hv0 : 0 < v) (hv1 : v < 4294967296 ^ m) (hl : t + (m + 1) ≤ nu) (hq : t < nq)
    (hV : V'.length = m + 1) (hwf : Wf V') (hr : num V' = num ((U.drop t).take (m + 1)) % v) :
    Knuth u v (U.take t ++ (V' ++ U.drop (t + (m + 1)))) (Q.set t (num ((U.drop t).take (m + 1)) / v)) nu nq t := by
  obtain ⟨w1, w2, w3⟩ := h.window hv1 hl
  obtain ⟨h1, h2, h3, h4, h5, h6⟩ := h
  have v0 := num_nonneg ((h3.drop t).take (m + 1))
  have p0 := num_nonneg (h3.take t)
  have p1 := num_lt (h3.take t)
  rw [List.length_take, Nat.min_eq_left (by omega)] at p1
  have hdm := Int.mul_ediv_add_emod (num ((U.drop t).take (m + 1))) v
  have r0 : 0 ≤ num ((U.drop t).take (m + 1)) % v := Int.emod_nonneg _ (by omega)
  have r1 : num ((U.drop t).take (m + 1)) % v < v := Int.emod_lt_of_pos _ hv0
  have q0 : 0 ≤ num ((U.drop t).take (m + 1)) / v := Int.ediv_nonneg v0 (Int.le_of_lt hv0)
  have q1 : num ((U.drop t).take (m + 1)) / v < 4294967296 := Int.ediv_lt_of_lt_mul hv0 (by rw [Int.mul_comm]; exact w3)
  have eU : num (U.take t ++ (V' ++ U.drop (t + (m + 1)))) = num (U.take t) + 4294967296 ^ t * num V' := by
    rw [num_append, num_append, w2, List.length_take, Nat.min_eq_left (by omega)]
    simp
  have hpt := pow_pos' t
  refine ⟨by simp [h1, hV]; omega, by simpa using h2, (h3.take t).append (hwf.append (h3.drop _)), h4.set _ ⟨q0, q1⟩, ?_, ?_⟩
  · rw [eU, hr, h5, w1, num_drop' (Q.set t _) t (by simp [h2]; omega), List.drop_set_of_lt (by omega), getD_set _ _ _ _ (by omega), if_pos rfl]
    generalize num ((U.drop t).take (m + 1)) = A at *
    generalize num (Q.drop (t + 1)) = C at *
    generalize num (U.take t) = D at *
    have e1 : v * (4294967296 ^ t * (A / v + 4294967296 * C)) = 4294967296 ^ t * (v * (A / v)) + v * (4294967296 ^ (t + 1) * C) := by
      rw [Int.mul_add (4294967296 ^ t), Int.mul_add v, Int.mul_left_comm v, Int.pow_succ, Int.mul_assoc]
    have e2 : (4294967296 : Int) ^ t * A = 4294967296 ^ t * (v * (A / v)) + 4294967296 ^ t * (A % v) := by rw [← Int.mul_add, hdm]
    rw [e1, e2]
    omega
  · rw [eU, hr]
    generalize num ((U.drop t).take (m + 1)) = A at *
    have a1 : (4294967296 : Int) ^ t * (A % v + 1) ≤ 4294967296 ^ t * v := Int.mul_le_mul_of_nonneg_left (by omega) (Int.le_of_lt hpt)
    rw [Int.mul_add, Int.mul_one, Int.mul_comm (4294967296 ^ t) v] at a1
    omega

end Go.Proofs.YtjohpdobnedilaaDoor

/- What integer.Quo does. -/
namespace Go.Proofs.YtjohpdobnedilaaDoor
open Go.RowKit

end Go.Proofs.YtjohpdobnedilaaDoor
