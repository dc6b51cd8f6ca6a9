import Derived.Test.YtekocoklfnojmaaGreatDoorIHoldsU26
import Derived.Test.YtekocoklfnojmaaGreatDoorIHoldsU41
import Derived.Test.YtekocoklfnojmaaGreatDoorIHoldsU42
import Derived.Test.YtekocoklfnojmaaGreatDoorIHoldsU18
import Derived.Test.YtekocoklfnojmaaGreatDoorIHoldsU12
import Derived.Test.YtekocoklfnojmaaGreatDoorIHoldsU13
import Derived.Test.YtekocoklfnojmaaGreatDoorIHoldsU33
import Derived.Test.YtekocoklfnojmaaGreatDoorIHoldsU22
import Derived.Test.YtekocoklfnojmaaGreatDoorIHoldsU44
import Derived.Test.YtekocoklfnojmaaGreatDoorIHoldsU34
import Derived.Deep.RegionHeld3
import Derived.Test.YtekocoklfnojmaaGreatDoorIHoldsU39
import Derived.Test.YtekocoklfnojmaaGreatDoorIHoldsU27
import Derived.Test.YtekocoklfnojmaaGreatDoorIHoldsU23
namespace Go.Proofs.YtekocoklfnojmaaGreatDoor
open Go.RowKit

theorem fdy_small (f : Nat) : blen (dm (fdy f)).natAbs ≤ 3100 := by
  cases hf : finB f
  · rw [show fdy f = none by unfold fdy; rw [hf]; rfl]; simp [dm, blen]
  · cases hz : zeroB f
    · have h0 : sig f ≠ 0 := fun h => by have h1 := (sig_zero f).1 h; unfold zeroB at hz; rw [h1] at hz; simp at hz
      obtain ⟨h1, h2, _⟩ := fdy_parts hf h0 (tzf_isTz (sig f))
      rw [h1]
      have h3 : (dm (some (if fneg f then -((sig f / 2 ^ tzf (sig f) : Nat) : Int) else ((sig f / 2 ^ tzf (sig f) : Nat) : Int), -1074 + (fsh f : Int) + tzf (sig f)))).natAbs = sig f / 2 ^ tzf (sig f) := by
        show (if fneg f then -((sig f / 2 ^ tzf (sig f) : Nat) : Int) else ((sig f / 2 ^ tzf (sig f) : Nat) : Int)).natAbs = _
        cases fneg f
        · exact Int.natAbs_natCast _
        · show (-((sig f / 2 ^ tzf (sig f) : Nat) : Int)).natAbs = _
          rw [Int.natAbs_neg, Int.natAbs_natCast]
      rw [h3]
      exact Nat.le_trans (blen_le_of_lt (k := 53) h2) (by omega)
    · rw [fdy_zero hz]; simp [dm, blen]

/-- products of floats, exactly -/
theorem fdy_mul {f g : Nat} (hf : finB f = true) (hg : finB g = true) : Is (dmul (fdy f) (fdy g)) (1074 + 1074) (fzs f * fzs g) := by
  have b1 := fz_bound hf
  have b2 := fz_bound hg
  rw [← fzs_abs] at b1 b2
  exact (fdy_is hf).mul (fdy_is hg) (by omega) (abs_mul_lt b1 b2) (by rw [low46_le]; omega)
end Go.Proofs.YtekocoklfnojmaaGreatDoor

namespace Go.Proofs.YtekocoklfnojmaaGreatDoor
open Go.RowKit

/-- a root's number: what is under it, and where -/
structure RootOf (N : Nat) (e : Int) (M hi lo r : Nat) (E : Int) (s : Nat) : Prop where
  val : M = N * 2 ^ s
  exp : 2 * E + s = e
  words : hi * 18446744073709551616 + lo = M
  hlo : lo < 18446744073709551616
  hi0 : 1152921504606846976 ≤ hi
  hi1 : hi < 4611686018427387904
  r0 : r * r ≤ M
  r1 : M < (r + 1) * (r + 1)
  r2 : 4611686018427387904 ≤ r
  r3 : r < 9223372036854775808

end Go.Proofs.YtekocoklfnojmaaGreatDoor

namespace Go.Proofs.YtekocoklfnojmaaGreatDoor
open Go.RowKit

/-- a value, the dyad that it reads as, is it normalized -/
structure DEnt where
  v : Value
  d : Dy
  c : Bool

def DEnt.Ok (w : World) (p : DEnt) : Prop := Dg w p.v p.d ∧ (p.c = true → Dn w p.v p.d)

theorem DEnt.Ok.ext {w w' : World} {p : DEnt} (h : p.Ok w) (he : Ext w w') : p.Ok w' := ⟨h.1.ext he, fun e => (h.2 e).ext he⟩
/-- what is at hand -/
structure DSt (W w : World) (L : List DEnt) : Prop where
  ext : Ext W w
  tab : Table w
  bag : ∀ p ∈ L, p.Ok w

theorem DSt.step {W w w' : World} {L : List DEnt} (h : DSt W w L) (he : Ext w w') : DSt W w' L := ⟨h.ext.trans he, h.tab.below he, fun p hp => (h.bag p hp).ext he⟩
theorem DSt.drew {W w : World} {L : List DEnt} (h : DSt W w L) : DSt W w.drew L := h.step (Below.refl _ _).drew
theorem DSt.alloc {W w : World} {L : List DEnt} (h : DSt W w L) (o : Obj) : DSt W (w.alloc o) L := h.step ((Below.refl _ w).alloc (Nat.le_refl _) o)
section
variable {W w : World} {L : List DEnt} {u v : Value} {d d' : Dy} {c c' : Bool}

end
end Go.Proofs.YtekocoklfnojmaaGreatDoor

namespace Go.Proofs.YtekocoklfnojmaaGreatDoor
theorem rz_up {S : Int} (k : Nat) (e mode : Int) : rz (S * 2 ^ k) (e - k) mode = rz S e mode := by
  unfold rz
  by_cases h : S = 0
  · rw [if_pos h, h, Int.zero_mul, if_pos rfl]
  · have h2 : S * 2 ^ k ≠ 0 := Int.mul_ne_zero h (Int.ne_of_gt (Int.pow_pos (by omega)))
    rw [if_neg h, if_neg h2, rnd_up h]
theorem fin_top {x : Nat} (h : finB x = true) : -9218868437227405312 < frank x ∧ frank x < 9218868437227405312 := fin_rank_lt h
theorem fzs_eq {a b : Nat} (ha : nanB a = false) (hb : nanB b = false) (h : frank a = frank b) : fzs a = fzs b := by
  have h1 := (fzs_rank ha hb).1 (by omega)
  have h2 := (fzs_rank hb ha).1 (by omega)
  omega
theorem negp_facts {f : Nat} (lf : f < 18446744073709551616) (nf : nanB f = false) : nanB (plainF (fnegF f)) = false ∧ plainF (fnegF f) < 18446744073709551616 ∧ frank (plainF (fnegF f)) = -frank f ∧ (finB (plainF (fnegF f)) = true → finB f = true ∧ fzs (plainF (fnegF f)) = -fzs f) := by
  obtain ⟨p1, p2, -⟩ := neg_rank lf nf
  obtain ⟨q1, q2⟩ := plain_facts (fnegF f)
  refine ⟨by rw [q1, p1], plainF_lt fnegF_lt, by rw [q2, p2], fun h => ?_⟩
  have h1 := fin_top h
  have hf : finB f = true := fin_of_rank nf (by omega) (by omega)
  refine ⟨hf, ?_⟩
  rw [← (fneg_fzs lf hf).1]
  exact fzs_eq (by rw [q1, p1]) p1 q2
theorem mul_negs {t e : Nat} (lt : t < 18446744073709551616) (le : e < 18446744073709551616) (m m' : Int) (h : opp m' = m) (h' : opp m = m') : rk (fmulF (fnegF t) (fnegF e) m) = rk (fmulF t e m) := by
  have h1 := fmul_mirror (b := fnegF e) lt m'
  rw [h] at h1
  have h2 := fmul_mirror (b := t) le m
  rw [h'] at h2
  rw [h1, rk_neg (fmul_lt2 _ _ _), fmulF_comm t, h2, rk_neg (fmul_lt2 _ _ _), fmulF_comm e]
  omega
end Go.Proofs.YtekocoklfnojmaaGreatDoor

namespace Go.Proofs.YtekocoklfnojmaaGreatDoor
theorem fzs_lt2 {f : Nat} (h : finB f = true) : (fzs f).natAbs < 2 ^ (52 + low46) := by
  have := fz_bound h
  rw [← fzs_abs] at this
  exact this
theorem is_sub2 {d d' : Dy} {S : Nat} {N M : Int} (h : Is d S N) (h' : Is d' S M) (hS : S ≤ 65536) {B : Nat} (hb : (N - M).natAbs < 2 ^ B) (hB : B ≤ 65536) : Is (dsub d d') S (N - M) := by
  have := h.add h'.neg hS (B := B) (by rw [← Int.sub_eq_add_neg]; exact hb) hB
  rw [← Int.sub_eq_add_neg] at this
  exact this
theorem frd_is {d : Dy} {S : Nat} {N : Int} (h : Is d S N) (mode : Int) : frdF d mode = rz N (-(S : Int)) mode := by
  obtain ⟨m, e, rfl, -, h0, rfl⟩ := h
  show rz m e mode = _
  have := rz_up (S := m) (e + S).toNat e mode
  rw [show e - (((e + S).toNat : Nat) : Int) = -(S : Int) by omega] at this
  exact this.symm
/-- is the number of a dyad, rounded both ways, in an interval? -/
def contD (lo hi : Nat) (d : Dy) : Bool := subF (frdF d 1) (frdF d 2) lo hi
theorem frd_good {d : Dy} {S : Nat} {N : Int} (h : Is d S N) : Good (frdF d 1) (frdF d 2) := by
  rw [frd_is h, frd_is h]
  obtain ⟨a1, a2⟩ := rz_facts N (-(S : Int)) 1
  obtain ⟨b1, b2⟩ := rz_facts N (-(S : Int)) 2
  obtain ⟨c1, c2, c3⟩ := rz_dirs N (-(S : Int))
  exact ⟨a2, b2, a1, b1, c2, c1, c3⟩
theorem contD_in {d : Dy} {S : Nat} {N : Int} (h : Is d S N) {lo hi : Nat} (g : Good lo hi) (h1 : frank lo ≤ frank (rz N (-(S : Int)) 1)) (h2 : frank (rz N (-(S : Int)) 2) ≤ frank hi) : contD lo hi d = true :=
  (frd_good h).sub g (by rw [frd_is h]; exact h1) (by rw [frd_is h]; exact h2)
structure InI (a b p : Nat) : Prop where
  g : Good a b
  f : finB p = true
  l : p < 18446744073709551616
  lo : frank a ≤ frank p
  hi : frank p ≤ frank b
theorem InI.n {a b p : Nat} (h : InI a b p) : nanB p = false := fin_nan h.f
theorem InI.nm {a b p : Nat} (h : InI a b p) : Nm p := ⟨h.l, h.n⟩
theorem InI.of {a b p : Nat} (ha : a < 18446744073709551616) (hb : b < 18446744073709551616) (hp : p < 18446744073709551616) (h : contF a b p = true) : InI a b p := by
  unfold contF at h
  simp only [Bool.and_eq_true, decide_eq_true_eq] at h
  exact ⟨Good.of ha hb h.1.1.1, h.1.1.2, hp, h.1.2, h.2⟩
theorem add_holds {a b e f p q : Nat} (hx : InI a b p) (hy : InI e f q) :
    frank (faddF a e 1) ≤ frank (rz (fzs p + fzs q) (-1074) 1) ∧ frank (rz (fzs p + fzs q) (-1074) 2) ≤ frank (faddF b f 2) := by
  have tp := fin_top hx.f
  have tq := fin_top hy.f
  have gx := hx.g
  have gy := hy.g
  have k1 := (add_low gx.l1 gy.l1 gx.n1 gy.n1 gx.lo gy.lo).1
  have k2 := (add_low hx.l gy.l1 hx.n gy.n1 tp.2 gy.lo).1
  have k3 := (add_low hx.l hy.l hx.n hy.n tp.2 tq.2).1
  have m1 := (add_high gx.l2 gy.l2 gx.n2 gy.n2 gx.hi gy.hi).1
  have m2 := (add_high hx.l gy.l2 hx.n gy.n2 tp.1 gy.hi).1
  have m3 := (add_high hx.l hy.l hx.n hy.n tp.1 tq.1).1
  have s1 := add_mono 1 gx.l1 hx.l gy.l1 gx.n1 hx.n hx.lo k1 k2
  have s2 := add_monoR 1 gy.l1 hy.l hx.l gy.n1 hy.n hy.lo k2 k3
  have t1 := add_mono 2 hx.l gx.l2 gy.l2 hx.n gx.n2 hx.hi m2 m1
  have t2 := add_monoR 2 hy.l gy.l2 hx.l hy.n gy.n2 hy.hi m3 m2
  have e1 := (add_fin_rank 1 hx.f hy.f hy.l).2
  have e2 := (add_fin_rank 2 hx.f hy.f hy.l).2
  omega
theorem InI.neg {a b p : Nat} (h : InI a b p) : InI (plainF (fnegF b)) (plainF (fnegF a)) (plainF (fnegF p)) ∧ fzs (plainF (fnegF p)) = -fzs p := by
  obtain ⟨g1, g2, g3⟩ := neg_good h.g
  obtain ⟨m1, m2, m3, m4⟩ := negp_facts h.l h.n
  have t := fin_top h.f
  have f := fin_of_rank m1 (by omega) (by omega)
  have h1 := h.lo
  have h2 := h.hi
  exact ⟨⟨g1, f, m2, by omega, by omega⟩, (m4 f).2⟩
theorem pow_twice (k : Nat) : 2 ^ (k + 1) = 2 ^ k + 2 ^ k := by rw [Nat.pow_succ]; omega
theorem adds_is {p q : Nat} (fp : finB p = true) (fq : finB q = true) : Is (dadd (fdy p) (fdy q)) 1074 (fzs p + fzs q) := by
  have h1 := fzs_lt2 fp
  have h2 := fzs_lt2 fq
  have h3 := pow_twice (52 + low46)
  refine (fdy_is fp).add (fdy_is fq) (by omega) (B := 52 + low46 + 1) ?_ (by rw [low46_le]; omega)
  generalize 2 ^ (52 + low46) = P at *
  generalize 2 ^ (52 + low46 + 1) = Q at *
  omega
theorem subs_is {p q : Nat} (fp : finB p = true) (fq : finB q = true) : Is (dsub (fdy p) (fdy q)) 1074 (fzs p - fzs q) := by
  have h1 := fzs_lt2 fp
  have h2 := fzs_lt2 fq
  have h3 := pow_twice (52 + low46)
  refine is_sub2 (fdy_is fp) (fdy_is fq) (by omega) (B := 52 + low46 + 1) ?_ (by rw [low46_le]; omega)
  generalize 2 ^ (52 + low46) = P at *
  generalize 2 ^ (52 + low46 + 1) = Q at *
  omega
theorem add_cont {a b e f p q : Nat} (hx : InI a b p) (hy : InI e f q) : contD (plainF (faddF a e 1)) (plainF (faddF b f 2)) (dadd (fdy p) (fdy q)) = true := by
  obtain ⟨h1, h2⟩ := add_holds hx hy
  exact contD_in (adds_is hx.f hy.f) (add_good hx.g hy.g).plain (by rw [(plain_facts _).2]; exact h1) (by rw [(plain_facts _).2]; exact h2)
theorem sub_cont {a b e f p q : Nat} (hx : InI a b p) (hy : InI e f q) : contD (plainF (faddF a (plainF (fnegF f)) 1)) (plainF (faddF b (plainF (fnegF e)) 2)) (dsub (fdy p) (fdy q)) = true := by
  obtain ⟨n1, n2⟩ := hy.neg
  obtain ⟨h1, h2⟩ := add_holds hx n1
  rw [n2, ← Int.sub_eq_add_neg] at h1 h2
  exact contD_in (subs_is hx.f hy.f) (add_good hx.g n1.g).plain (by rw [(plain_facts _).2]; exact h1) (by rw [(plain_facts _).2]; exact h2)
theorem lo4_one (f : Nat → Nat → Int → Nat) (p q : Nat) : lo4 f p p q q = rk (f p q 1) ∧ hi4 f p p q q = rk (f p q 2) := by
  unfold lo4 hi4 min4 max4; omega
theorem mul_cont {a b e f p q : Nat} (hx : InI a b p) (hy : InI e f q) : contD (plainF (cornLo fmulF a b e f)) (plainF (cornHi fmulF a b e f)) (dmul (fdy p) (fdy q)) = true := by
  obtain ⟨gm, m1, m2⟩ := mul_good hx.g hy.g
  have l1 := mul_monoF.narrowL hx.nm hx.nm hx.g.nm.1 hx.g.nm.2 hy.g.nm.1 hy.g.nm.2 hx.lo (Int.le_refl _) hx.hi
  have l2 := mul_monoF.narrowR hy.nm hy.nm hy.g.nm.1 hy.g.nm.2 hx.nm hx.nm hy.lo (Int.le_refl _) hy.hi
  obtain ⟨o1, o2⟩ := lo4_one fmulF p q
  obtain ⟨a1, a2⟩ := mul_fin_rank 1 hx.f hy.f
  obtain ⟨b1, b2⟩ := mul_fin_rank 2 hx.f hy.f
  rw [rk_num a1, a2] at o1
  rw [rk_num b1, b2] at o2
  exact contD_in (fdy_mul hx.f hy.f) gm.plain (by rw [(plain_facts _).2, m1]; show _ ≤ frank (rz _ (-2148) 1); omega) (by rw [(plain_facts _).2, m2]; show frank (rz _ (-2148) 2) ≤ _; omega)
theorem sqr_cont {a b p : Nat} (hx : InI a b p) : contD (plainF (fmulF (migF a b) (migF a b) 1)) (plainF (fmulF (magF a b) (magF a b) 2)) (dmul (fdy p) (fdy p)) = true := by
  obtain ⟨n1, n2, e1, e2⟩ := size_facts hx.g
  have gs := sqr_good hx.g
  have np := neg_rank hx.l hx.n
  have hlo := hx.lo
  have hhi := hx.hi
  have hle := hx.g.le
  have i0 : 0 ≤ frank (migF a b) := by rw [e2]; split <;> (try split) <;> (try split) <;> omega
  have i1 : frank (migF a b) ≤ frank p ∨ frank (migF a b) ≤ frank (fnegF p) := by rw [np.2.1, e2]; split <;> (try split) <;> (try split) <;> omega
  have i2 : (0 ≤ frank p → frank p ≤ frank (magF a b)) ∧ (frank p ≤ 0 → frank (fnegF p) ≤ frank (magF a b)) := by rw [np.2.1, e1]; split <;> (try split) <;> omega
  obtain ⟨a1, a2⟩ := mul_fin_rank 1 hx.f hx.f
  obtain ⟨b1, b2⟩ := mul_fin_rank 2 hx.f hx.f
  have s1 := sqr_num 1 np.1
  have s2 := sqr_num 2 np.1
  have k1 := mul_negs hx.l hx.l 1 2 rfl rfl
  have k2 := mul_negs hx.l hx.l 2 1 rfl rfl
  rw [rk_num s1, rk_num a1] at k1
  rw [rk_num s2, rk_num b1] at k2
  refine contD_in (fdy_mul hx.f hx.f) gs.plain ?_ ?_
  · rw [(plain_facts _).2]
    show _ ≤ frank (rz _ (-2148) 1)
    rcases i1 with h | h
    · have := sqr_mono 1 n1 hx.n i0 h; omega
    · have := sqr_mono 1 n1 np.1 i0 h; omega
  · rw [(plain_facts _).2]
    show frank (rz _ (-2148) 2) ≤ _
    rcases Int.le_total 0 (frank p) with h | h
    · have := sqr_mono 2 hx.n n2 h (i2.1 h); omega
    · have := sqr_mono 2 np.1 n2 (by omega) (i2.2 h); omega
theorem div_cont {a b e f p q : Nat} (hx : InI a b p) (hy : InI e f q) (h0 : containsF e f = false) :
    frank (plainF (cornLo fdivF a b e f)) ≤ rk (fdivF p q 1) ∧ rk (fdivF p q 2) ≤ frank (plainF (cornHi fdivF a b e f)) := by
  obtain ⟨gm, m1, m2⟩ := div_good hx.g hy.g h0
  obtain ⟨o1, o2⟩ := lo4_one fdivF p q
  have hlo := hy.lo
  have hhi := hy.hi
  have hle := hy.g.le
  rw [(plain_facts _).2, (plain_facts _).2, m1, m2]
  rcases no_zero hy.g h0 with h | h
  · have pe : PosD e := ⟨hy.g.l1, hy.g.n1, h⟩
    have pf : PosD f := ⟨hy.g.l2, hy.g.n2, by omega⟩
    have pq : PosD q := ⟨hy.l, hy.n, by omega⟩
    have l1 := div_monoP.narrowL hx.nm hx.nm hx.g.nm.1 hx.g.nm.2 pe pf hx.lo (Int.le_refl _) hx.hi
    have l2 := div_monoP.narrowR pq pq pe pf hx.nm hx.nm hy.lo (Int.le_refl _) hy.hi
    omega
  · have pe : NegD e := ⟨hy.g.l1, hy.g.n1, by omega⟩
    have pf : NegD f := ⟨hy.g.l2, hy.g.n2, h⟩
    have pq : NegD q := ⟨hy.l, hy.n, by omega⟩
    have l1 := div_monoN.narrowL hx.nm hx.nm hx.g.nm.1 hx.g.nm.2 pe pf hx.lo (Int.le_refl _) hx.hi
    have l2 := div_monoN.narrowR pq pq pe pf hx.nm hx.nm hy.lo (Int.le_refl _) hy.hi
    omega
end Go.Proofs.YtekocoklfnojmaaGreatDoor

namespace Go.Proofs.YtekocoklfnojmaaGreatDoor
open Go.RowKit

set_option maxRecDepth 100000 in
set_option maxHeartbeats 8000000 in
theorem isubset_any (a b c d : Nat) (ha : a < 18446744073709551616) (hb : b < 18446744073709551616) (hc : c < 18446744073709551616) (hd : d < 18446744073709551616) (z : Bool) (hz : subF a b c d = z) (w : World) :
    Calls Tryz.prog 34 #[.agg #[.int .u64 (a : Int), .int .u64 (b : Int)], .agg #[.int .u64 (c : Int), .int .u64 (d : Int)]] w fun e w' => e = .returned (.bool z) ∧ Ext w w' := by
  unfold subF at hz
  obtain ⟨v1, h1⟩ : ∃ v, validF a b = v := ⟨_, rfl⟩
  obtain ⟨v2, h2⟩ : ∃ v, validF c d = v := ⟨_, rfl⟩
  obtain ⟨l3, h3⟩ : ∃ v, lessF a c = v := ⟨_, rfl⟩
  obtain ⟨l4, h4⟩ : ∃ v, lessF d b = v := ⟨_, rfl⟩
  have C1 := Lib.hid (ivalid_at a b ha hb rfl rfl v1 h1)
  have C2 := Lib.hid (ivalid_at c d hc hd rfl rfl v2 h2)
  have C3 := Lib.hid (isLess_at a c ha hc rfl rfl l3 h3)
  have C4 := Lib.hid (isLess_at d b hd hb rfl rfl l4 h4)
  rw [h1, h2, h3, h4] at hz
  clear h1 h2 h3 h4 ha hb hc hd
  cases v1
  · obtain rfl : false = z := hz
    go_enter Tryz.func34, Tryz.ntmps34
    go_wp2_with fail
    obtain ⟨W, hW, hB, hx, hy, hsz⟩ := ibox_two w a b c d
    rw [← hW]
    clear hW
    have HB := Lib.hid hB
    generalize w.heap.size = B at hx hy ⊢
    clear hB hsz
    have c0 := hx.c0
    have c1 := hx.c1
    have c2 := hy.c0
    have c3 := hy.c1
    go_wp2_with fail
    refine (C1.out _).mono ?_
    rintro r w1 ⟨rfl, hE⟩
    have hx := hx.below hE
    have hy := hy.below hE
    have HB := Lib.hid (HB.out.trans hE)
    clear c0 c1 c2 c3 hE
    have c0 := hx.c0
    have c1 := hx.c1
    have c2 := hy.c0
    have c3 := hy.c1
    go_wp2
    go_ret
    exact ⟨rfl, HB.out⟩
  · cases v2
    · obtain rfl : false = z := hz
      go_enter Tryz.func34, Tryz.ntmps34
      go_wp2_with fail
      obtain ⟨W, hW, hB, hx, hy, hsz⟩ := ibox_two w a b c d
      rw [← hW]
      clear hW
      have HB := Lib.hid hB
      generalize w.heap.size = B at hx hy ⊢
      clear hB hsz
      have c0 := hx.c0
      have c1 := hx.c1
      have c2 := hy.c0
      have c3 := hy.c1
      go_wp2_with fail
      refine (C1.out _).mono ?_
      rintro r w1 ⟨rfl, hE⟩
      have hx := hx.below hE
      have hy := hy.below hE
      have HB := Lib.hid (HB.out.trans hE)
      clear c0 c1 c2 c3 hE
      have c0 := hx.c0
      have c1 := hx.c1
      have c2 := hy.c0
      have c3 := hy.c1
      go_wp2_with fail
      refine (C2.out _).mono ?_
      rintro r w2 ⟨rfl, hE⟩
      have hx := hx.below hE
      have hy := hy.below hE
      have HB := Lib.hid (HB.out.trans hE)
      clear c0 c1 c2 c3 hE
      have c0 := hx.c0
      have c1 := hx.c1
      have c2 := hy.c0
      have c3 := hy.c1
      go_wp2
      go_ret
      exact ⟨rfl, HB.out⟩
    · cases l3
      · cases l4
        · obtain rfl : true = z := hz
          go_enter Tryz.func34, Tryz.ntmps34
          go_wp2_with fail
          obtain ⟨W, hW, hB, hx, hy, hsz⟩ := ibox_two w a b c d
          rw [← hW]
          clear hW
          have HB := Lib.hid hB
          generalize w.heap.size = B at hx hy ⊢
          clear hB hsz
          have c0 := hx.c0
          have c1 := hx.c1
          have c2 := hy.c0
          have c3 := hy.c1
          go_wp2_with fail
          refine (C1.out _).mono ?_
          rintro r w1 ⟨rfl, hE⟩
          have hx := hx.below hE
          have hy := hy.below hE
          have HB := Lib.hid (HB.out.trans hE)
          clear c0 c1 c2 c3 hE
          have c0 := hx.c0
          have c1 := hx.c1
          have c2 := hy.c0
          have c3 := hy.c1
          go_wp2_with fail
          refine (C2.out _).mono ?_
          rintro r w2 ⟨rfl, hE⟩
          have hx := hx.below hE
          have hy := hy.below hE
          have HB := Lib.hid (HB.out.trans hE)
          clear c0 c1 c2 c3 hE
          have c0 := hx.c0
          have c1 := hx.c1
          have c2 := hy.c0
          have c3 := hy.c1
          go_wp2_with fail
          refine (C3.out _).mono ?_
          rintro r w3 ⟨rfl, hE⟩
          have hx := hx.below hE
          have hy := hy.below hE
          have HB := Lib.hid (HB.out.trans hE)
          clear c0 c1 c2 c3 hE
          have c0 := hx.c0
          have c1 := hx.c1
          have c2 := hy.c0
          have c3 := hy.c1
          go_wp2_with fail
          refine (C4.out _).mono ?_
          rintro r w4 ⟨rfl, hE⟩
          have hx := hx.below hE
          have hy := hy.below hE
          have HB := Lib.hid (HB.out.trans hE)
          clear c0 c1 c2 c3 hE
          have c0 := hx.c0
          have c1 := hx.c1
          have c2 := hy.c0
          have c3 := hy.c1
          go_wp2
          go_ret
          exact ⟨rfl, HB.out⟩
        · obtain rfl : false = z := hz
          go_enter Tryz.func34, Tryz.ntmps34
          go_wp2_with fail
          obtain ⟨W, hW, hB, hx, hy, hsz⟩ := ibox_two w a b c d
          rw [← hW]
          clear hW
          have HB := Lib.hid hB
          generalize w.heap.size = B at hx hy ⊢
          clear hB hsz
          have c0 := hx.c0
          have c1 := hx.c1
          have c2 := hy.c0
          have c3 := hy.c1
          go_wp2_with fail
          refine (C1.out _).mono ?_
          rintro r w1 ⟨rfl, hE⟩
          have hx := hx.below hE
          have hy := hy.below hE
          have HB := Lib.hid (HB.out.trans hE)
          clear c0 c1 c2 c3 hE
          have c0 := hx.c0
          have c1 := hx.c1
          have c2 := hy.c0
          have c3 := hy.c1
          go_wp2_with fail
          refine (C2.out _).mono ?_
          rintro r w2 ⟨rfl, hE⟩
          have hx := hx.below hE
          have hy := hy.below hE
          have HB := Lib.hid (HB.out.trans hE)
          clear c0 c1 c2 c3 hE
          have c0 := hx.c0
          have c1 := hx.c1
          have c2 := hy.c0
          have c3 := hy.c1
          go_wp2_with fail
          refine (C3.out _).mono ?_
          rintro r w3 ⟨rfl, hE⟩
          have hx := hx.below hE
          have hy := hy.below hE
          have HB := Lib.hid (HB.out.trans hE)
          clear c0 c1 c2 c3 hE
          have c0 := hx.c0
          have c1 := hx.c1
          have c2 := hy.c0
          have c3 := hy.c1
          go_wp2_with fail
          refine (C4.out _).mono ?_
          rintro r w4 ⟨rfl, hE⟩
          have hx := hx.below hE
          have hy := hy.below hE
          have HB := Lib.hid (HB.out.trans hE)
          clear c0 c1 c2 c3 hE
          have c0 := hx.c0
          have c1 := hx.c1
          have c2 := hy.c0
          have c3 := hy.c1
          go_wp2
          go_ret
          exact ⟨rfl, HB.out⟩
      · obtain rfl : false = z := by rw [← hz]; cases l4 <;> rfl
        go_enter Tryz.func34, Tryz.ntmps34
        go_wp2_with fail
        obtain ⟨W, hW, hB, hx, hy, hsz⟩ := ibox_two w a b c d
        rw [← hW]
        clear hW
        have HB := Lib.hid hB
        generalize w.heap.size = B at hx hy ⊢
        clear hB hsz
        have c0 := hx.c0
        have c1 := hx.c1
        have c2 := hy.c0
        have c3 := hy.c1
        go_wp2_with fail
        refine (C1.out _).mono ?_
        rintro r w1 ⟨rfl, hE⟩
        have hx := hx.below hE
        have hy := hy.below hE
        have HB := Lib.hid (HB.out.trans hE)
        clear c0 c1 c2 c3 hE
        have c0 := hx.c0
        have c1 := hx.c1
        have c2 := hy.c0
        have c3 := hy.c1
        go_wp2_with fail
        refine (C2.out _).mono ?_
        rintro r w2 ⟨rfl, hE⟩
        have hx := hx.below hE
        have hy := hy.below hE
        have HB := Lib.hid (HB.out.trans hE)
        clear c0 c1 c2 c3 hE
        have c0 := hx.c0
        have c1 := hx.c1
        have c2 := hy.c0
        have c3 := hy.c1
        go_wp2_with fail
        refine (C3.out _).mono ?_
        rintro r w3 ⟨rfl, hE⟩
        have hx := hx.below hE
        have hy := hy.below hE
        have HB := Lib.hid (HB.out.trans hE)
        clear c0 c1 c2 c3 hE
        have c0 := hx.c0
        have c1 := hx.c1
        have c2 := hy.c0
        have c3 := hy.c1
        go_wp2
        go_ret
        exact ⟨rfl, HB.out⟩

set_option maxRecDepth 100000 in
set_option maxHeartbeats 4000000 in
theorem within_any (a b f : Nat) (ha : a < 18446744073709551616) (hb : b < 18446744073709551616) (hf : f < 18446744073709551616) (z : Bool) (hz : contF a b f = z) (w : World) (hT : Table w) :
    Calls Tryz.prog 46 #[.int .u64 (f : Int), .agg #[.int .u64 (a : Int), .int .u64 (b : Int)]] w fun e w' => e = .returned (.bool z) ∧ Ext w w' := by
  have CO := Lib.hid (fun W (hE : Ext w W) => refOf_any f hf W (hT.below hE))
  have CC := Lib.hid (fun W v (hE : Ext w W) (hv : Dl W v (fdy f)) => refContains_any a b ha hb v (fdy f) z ((cont_fl a b f ha hb).trans hz) W hv (hT.below hE))
  generalize fdy f = df at *
  clear ha hb hf hz hT
  go_enter Tryz.func46, Tryz.ntmps46
  go_upto_region 1 with fail
  obtain ⟨W, hW, hB, hx, hz⟩ := ibox_new w a b
  rw [← hW]
  clear hW
  have HB := Lib.hid (show Ext w W from hB)
  generalize w.heap.size = B at *
  have c0 := hx.c0
  have c1 := hx.c1
  have HC := Lib.hid (show ∀ wx, Ext W wx → wx.cell? ⟨B, 0, none⟩ = some (.int .u64 (a : Int)) ∧ wx.cell? ⟨B, 1, none⟩ = some (.int .u64 (b : Int)) from fun wx h => ⟨(hx.below h).c0, (hx.below h).c1⟩)
  have st : Ext W W.drew := (Below.refl _ _).drew
  clear hB hx hz
  go_region_held3 (fun wx => wx.cell? ⟨B, 0, none⟩ = some (.int .u64 (a : Int)) ∧ wx.cell? ⟨B, 1, none⟩ = some (.int .u64 (b : Int)))
    (first | exact HC.out _ (by assumption))
    (first
      | (go_at_call 93; (with_reducible refine (CO.out _ (Ext.trans HB.out st)).mono ?_); rintro e w1 ⟨v, rfl, hv, hE1⟩; have st1 : Ext W w1 := Ext.trans st hE1)
      | (go_at_call 33; refine (CC.out _ _ (Ext.trans HB.out st1) hv.dl).mono ?_; rintro e w2 ⟨rfl, hE2⟩; have st2 : Ext W w2 := Ext.trans st1 hE2))
  have HF := Lib.hid (Ext.trans HB.out st2)
  go_wp2
  go_ret
  exact ⟨rfl, HF.out⟩
end Go.Proofs.YtekocoklfnojmaaGreatDoor

namespace Go.Proofs.YtekocoklfnojmaaGreatDoor
open Go.RowKit
theorem box_id2 (w : World) (lo hi : Int) (bb nb : Bool) (ao : Option Addr) (n ca : Nat) (e : Int) :
    ∃ W, W = (w.alloc (.cells #[.int .u64 lo, .int .u64 hi] 25)).alloc (.cells #[.bool bb, .bool nb, .slice ao n ca, .int .i64 e] 36) ∧ Ext w W ∧ IBox W w.heap.size lo hi ∧ DBox W (w.heap.size + 1) bb nb ao n ca e := by
  refine ⟨_, rfl, ((Below.refl _ w).alloc (Nat.le_refl _) _).alloc (by simp) _, ?_, ?_⟩
  · exact (IBox.new w lo hi).below ((Below.refl _ _).alloc (Nat.le_refl _) _)
  · have := DBox.new (w.alloc (.cells #[.int .u64 lo, .int .u64 hi] 25)) bb nb ao n ca e
    simpa using this
end Go.Proofs.YtekocoklfnojmaaGreatDoor

namespace Go.Proofs.YtekocoklfnojmaaGreatDoor
open Go.RowKit

set_option maxRecDepth 100000 in
set_option maxHeartbeats 8000000 in
theorem icontains_any (lo hi : Nat) (hl : lo < 18446744073709551616) (hh : hi < 18446744073709551616) (v : Value) (d : Dy) (b : Bool) (hb : contD lo hi d = b) (w : World) (hv : Dg w v d) (hT : Table w) :
    Calls Tryz.prog 32 #[.agg #[.int .u64 (lo : Int), .int .u64 (hi : Int)], v] w fun e w' => e = .returned (.bool b) ∧ Ext w w' := by
  obtain ⟨vb, vn, vo, vk, vc, ve, rfl⟩ := hv.parts
  obtain ⟨r1, h1⟩ : ∃ r, frdF d 1 = r := ⟨_, rfl⟩
  obtain ⟨r2, h2⟩ : ∃ r, frdF d 2 = r := ⟨_, rfl⟩
  have l1 := frdF_lt d 1
  have l2 := frdF_lt d 2
  unfold contD at hb
  rw [h1] at l1 hb
  rw [h2] at l2 hb
  have CS := Lib.hid (isubset_any r1 r2 lo hi l1 l2 hl hh b hb)
  have CD := Lib.hid (fun wx (h : Ext w wx) => frd_at (mode := 1) (hv.ext h) (hT.below h) h1)
  have CU := Lib.hid (fun wx (h : Ext w wx) => frd_at (mode := 2) (hv.ext h) (hT.below h) h2)
  clear hb h1 h2 l1 l2 hl hh hv hT
  go_enter Tryz.func32, Tryz.ntmps32
  go_upto_region 1 with fail
  obtain ⟨W, hW, hB, hx, hy⟩ := box_id2 w lo hi vb vn vo vk vc ve
  rw [← hW]
  clear hW
  have HB := Lib.hid hB
  generalize w.heap.size = B at hx hy ⊢
  clear hB
  have HC := Lib.hid (show ∀ wx, Ext W wx → (wx.cell? ⟨B, 0, none⟩ = some (.int .u64 (lo : Int)) ∧ wx.cell? ⟨B, 1, none⟩ = some (.int .u64 (hi : Int))) ∧ (wx.cell? ⟨B + 1, 0, none⟩ = some (.bool vb) ∧ wx.cell? ⟨B + 1, 1, none⟩ = some (.bool vn) ∧ wx.cell? ⟨B + 1, 2, none⟩ = some (.slice vo vk vc) ∧ wx.cell? ⟨B + 1, 3, none⟩ = some (.int .i64 ve)) from fun wx h => ⟨⟨(hx.below h).c0, (hx.below h).c1⟩, (hy.below h).c0, (hy.below h).c1, (hy.below h).c2, (hy.below h).c3⟩)
  clear hx hy
  obtain ⟨⟨a0, a1⟩, a2, a3, a4, a5⟩ := HC.out W (Ext.refl _)
  have st : Ext W W.drew := (Below.refl _ _).drew
  go_region_held3 (fun wx => (wx.cell? ⟨B, 0, none⟩ = some (.int .u64 (lo : Int)) ∧ wx.cell? ⟨B, 1, none⟩ = some (.int .u64 (hi : Int))) ∧ (wx.cell? ⟨B + 1, 0, none⟩ = some (.bool vb) ∧ wx.cell? ⟨B + 1, 1, none⟩ = some (.bool vn) ∧ wx.cell? ⟨B + 1, 2, none⟩ = some (.slice vo vk vc) ∧ wx.cell? ⟨B + 1, 3, none⟩ = some (.int .i64 ve)))
    (first | exact HC.out _ (by assumption))
    (first
      | (go_at_call 86; (with_reducible refine (CD.out _ (Ext.trans HB.out (by assumption))).mono ?_); rintro r wa ⟨rfl, hE⟩; have st : Ext W wa := Ext.trans (by assumption) hE; clear hE)
      | (go_at_call 86; (with_reducible refine (CU.out _ (Ext.trans HB.out (by assumption))).mono ?_); rintro r wa ⟨rfl, hE⟩; have st : Ext W wa := Ext.trans (by assumption) hE; clear hE)
      | (go_at_call 34; (with_reducible refine (CS.out _).mono ?_); rintro r wa ⟨rfl, hE⟩; have st : Ext W wa := Ext.trans (by assumption) hE; clear hE))
  have HF := Lib.hid (Ext.trans HB.out st)
  go_wp2
  go_ret
  exact ⟨rfl, HF.out⟩
end Go.Proofs.YtekocoklfnojmaaGreatDoor
