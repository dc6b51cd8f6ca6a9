import Derived.Test.YtekocoklfnojmaaDoorIUndoU40
import Derived.Test.YtekocoklfnojmaaDoorIUndoU42
namespace Go.Proofs.YtekocoklfnojmaaDoor
theorem rz_self {b : Nat} (hb : finB b = true) (hl : b < 18446744073709551616) (mode : Int) : frank (rz (fzs b) (-1074) mode) = frank b := by
  cases hz : zeroB b with
  | true =>
    have h0 := zero_fzs hz
    unfold rz
    rw [if_pos h0]
    have := zero_rank.2 hz
    rw [this]
    decide
  | false =>
    have h0 := nz_fzs hz
    unfold rz
    rw [if_neg h0, fz_self hb hz hl]
theorem rz_up {S : Int} (k : Nat) (e mode : Int) : rz (S * 2 ^ k) (e - k) mode = rz S e mode := by
  unfold rz
  by_cases h : S = 0
  · rw [if_pos h, h, Int.zero_mul, if_pos rfl]
  · have h2 : S * 2 ^ k ≠ 0 := Int.mul_ne_zero h (Int.ne_of_gt (Int.pow_pos (by omega)))
    rw [if_neg h, if_neg h2, rnd_up h]
theorem rz_self2 {b : Nat} (hb : finB b = true) (hl : b < 18446744073709551616) (mode : Int) : frank (rz (fzs b * 2 ^ low74) (-2148) mode) = frank b := by
  have := rz_up (S := fzs b) low74 (-1074) mode
  rw [show (-1074 - (low74 : Int)) = -2148 from rfl] at this
  rw [this, rz_self hb hl]
theorem vs_self (S : Int) : vs S (-1074) 1074 = S := by unfold vs; simp
theorem vs_self2 (S : Int) : vs S (-2148) 2148 = S := by unfold vs; simp
/-- rounding downward is not above, upward not below: in units of 2^-1074 -/
theorem rz_encl (S : Int) : (finB (rz S (-1074) 1) = true → fzs (rz S (-1074) 1) ≤ S) ∧ (finB (rz S (-1074) 2) = true → S ≤ fzs (rz S (-1074) 2)) := by
  by_cases h : S = 0
  · unfold rz
    rw [if_pos h, if_pos h, h]
    decide
  · have E := rnd_enc (S := S) (e := -1074) (T := 1074) h (by omega) (by omega)
    have e1 := E.fl
    have e2 := E.fh
    rw [fs_fzs, vs_self] at e1 e2
    unfold rz
    rw [if_neg h, if_neg h]
    exact ⟨e1, e2⟩
theorem fs_2148 (f : Nat) : fs f 2148 = fzs f * 2 ^ low74 := by
  unfold fs fzs fu
  rw [fz_mag]
  rw [show 2148 - 1074 = low74 from rfl]
  split <;> push_cast <;> simp [Int.neg_mul]
theorem rz_encl2 (S : Int) : (finB (rz S (-2148) 1) = true → fzs (rz S (-2148) 1) * 2 ^ low74 ≤ S) ∧ (finB (rz S (-2148) 2) = true → S ≤ fzs (rz S (-2148) 2) * 2 ^ low74) := by
  by_cases h : S = 0
  · unfold rz
    rw [if_pos h, if_pos h, h]
    have : fzs 0 = 0 := by decide
    rw [this]
    simp
  · have E := rnd_enc (S := S) (e := -2148) (T := 2148) h (by omega) (by omega)
    have e1 := E.fl
    have e2 := E.fh
    rw [fs_2148, vs_self2] at e1 e2
    unfold rz
    rw [if_neg h, if_neg h]
    exact ⟨e1, e2⟩
theorem fin_top {x : Nat} (h : finB x = true) : -9218868437227405312 < frank x ∧ frank x < 9218868437227405312 := fin_rank_lt h
/-- a sum rounded downward: minus infinity, or not above the exact one -/
theorem low_sum {a e : Nat} (la : a < 18446744073709551616) (le : e < 18446744073709551616) (na : nanB a = false) (ne : nanB e = false) (ha : frank a < 9218868437227405312) (he : frank e < 9218868437227405312) :
    frank (faddF a e 1) = -9218868437227405312 ∨ (finB a = true ∧ finB e = true ∧ finB (faddF a e 1) = true ∧ fzs (faddF a e 1) ≤ fzs a + fzs e) := by
  have key : ∀ x, frank x < 9218868437227405312 → infB x = true → fneg x = true := fun x hx hi => by
    rcases inf_ends hi with ⟨h1, _⟩ | ⟨_, h2⟩
    · exact h1
    · omega
  obtain ⟨n1, l1⟩ := add_low la le na ne ha he
  rcases fin_or na with fa | ia
  · rcases fin_or ne with fe | ie
    · obtain ⟨h1, h2⟩ := add_fin_rank 1 fa fe le
      rcases fin_or h1 with fr | ir
      · right
        refine ⟨fa, fe, fr, ?_⟩
        obtain ⟨z1, z2⟩ := rz_facts (fzs a + fzs e) (-1074) 1
        have f2 : finB (rz (fzs a + fzs e) (-1074) 1) = true := by
          have := fin_top fr
          exact fin_of_rank z1 (by omega) (by omega)
        have h3 := (rz_encl (fzs a + fzs e)).1 f2
        have h4 := (fzs_rank h1 z1).1 (by omega)
        omega
      · left
        have h3 := infB_rank ir
        have h4 := key _ l1 ir
        rw [h4] at h3
        simpa using h3
    · left
      rw [add_infR 1 la le ie na (fun h => absurd h (by rw [(fin_not fa).2]; decide)), key e he ie, (inf_facts true).2]; rfl
  · left
    rw [add_infL 1 le ia ne (fun h => by rw [key e he h, key a ha ia]), key a ha ia, (inf_facts true).2]; rfl
theorem high_sum {a e : Nat} (la : a < 18446744073709551616) (le : e < 18446744073709551616) (na : nanB a = false) (ne : nanB e = false) (ha : -9218868437227405312 < frank a) (he : -9218868437227405312 < frank e) :
    frank (faddF a e 2) = 9218868437227405312 ∨ (finB a = true ∧ finB e = true ∧ finB (faddF a e 2) = true ∧ fzs a + fzs e ≤ fzs (faddF a e 2)) := by
  have key : ∀ x, -9218868437227405312 < frank x → infB x = true → fneg x = false := fun x hx hi => by
    rcases inf_ends hi with ⟨_, h2⟩ | ⟨h1, _⟩
    · omega
    · exact h1
  obtain ⟨n1, l1⟩ := add_high la le na ne ha he
  rcases fin_or na with fa | ia
  · rcases fin_or ne with fe | ie
    · obtain ⟨h1, h2⟩ := add_fin_rank 2 fa fe le
      rcases fin_or h1 with fr | ir
      · right
        refine ⟨fa, fe, fr, ?_⟩
        obtain ⟨z1, z2⟩ := rz_facts (fzs a + fzs e) (-1074) 2
        have f2 : finB (rz (fzs a + fzs e) (-1074) 2) = true := by
          have := fin_top fr
          exact fin_of_rank z1 (by omega) (by omega)
        have h3 := (rz_encl (fzs a + fzs e)).2 f2
        have h4 := (fzs_rank z1 h1).1 (by omega)
        omega
      · left
        have h3 := infB_rank ir
        have h4 := key _ l1 ir
        rw [h4] at h3
        simpa using h3
    · left
      rw [add_infR 2 la le ie na (fun h => absurd h (by rw [(fin_not fa).2]; decide)), key e he ie, (inf_facts false).2]; rfl
  · left
    rw [add_infL 2 le ia ne (fun h => by rw [key e he h, key a ha ia]), key a ha ia, (inf_facts false).2]; rfl
theorem fzs_eq {a b : Nat} (ha : nanB a = false) (hb : nanB b = false) (h : frank a = frank b) : fzs a = fzs b := by
  have h1 := (fzs_rank ha hb).1 (by omega)
  have h2 := (fzs_rank hb ha).1 (by omega)
  omega
theorem negp_facts {f : Nat} (lf : f < 18446744073709551616) (nf : nanB f = false) : nanB (plainF (fnegF f)) = false ∧ plainF (fnegF f) < 18446744073709551616 ∧ frank (plainF (fnegF f)) = -frank f ∧ (finB (plainF (fnegF f)) = true → finB f = true ∧ fzs (plainF (fnegF f)) = -fzs f) := by
  obtain ⟨p1, p2, -⟩ := neg_rank lf nf
  obtain ⟨q1, q2⟩ := plain_facts (fnegF f)
  refine ⟨by rw [q1, p1], plainF_lt fnegF_lt, by rw [q2, p2], fun h => ?_⟩
  have h1 := fin_top h
  have hf : finB f = true := fin_of_rank nf (by omega) (by omega)
  refine ⟨hf, ?_⟩
  rw [← (fneg_fzs lf hf).1]
  exact fzs_eq (by rw [q1, p1]) p1 q2
theorem add_undo {a b e f : Nat} (hx : Good a b) (hy : Good e f) :
    subF a b (plainF (faddF (plainF (faddF a e 1)) (plainF (fnegF f)) 1)) (plainF (faddF (plainF (faddF b f 2)) (plainF (fnegF e)) 2)) = true := by
  have g1 := (add_good hx hy).plain
  have g2 := (neg_good hy).1
  have g3 := (add_good g1 g2).plain
  have bot := rank_le hx.n1
  have top := rank_le hx.n2
  refine hx.sub g3 ?_ ?_
  · rw [(plain_facts _).2]
    obtain ⟨m1, m2, m3, m4⟩ := negp_facts hy.l2 hy.n2
    have hh := hy.hi
    rcases low_sum g1.l1 g2.l1 g1.n1 g2.n1 g1.lo g2.lo with h | ⟨fs1, fg, fr, hle⟩
    · omega
    · obtain ⟨ff, ef⟩ := m4 fg
      have r1 := fin_top fs1
      rw [(plain_facts _).2] at r1
      rcases low_sum hx.l1 hy.l1 hx.n1 hy.n1 hx.lo hy.lo with h | ⟨fa, fe, fs2, hle2⟩
      · omega
      · have e1 := fzs_eq g1.n1 (fin_nan fs2) (plain_facts _).2
        have h3 := (fzs_rank hy.n1 hy.n2).1 hy.le
        exact (fzs_rank (fin_nan fr) hx.n1).2 (by omega)
  · rw [(plain_facts _).2]
    obtain ⟨m1, m2, m3, m4⟩ := negp_facts hy.l1 hy.n1
    have hh := hy.lo
    rcases high_sum g1.l2 g2.l2 g1.n2 g2.n2 g1.hi g2.hi with h | ⟨fs1, fg, fr, hle⟩
    · omega
    · obtain ⟨ff, ef⟩ := m4 fg
      have r1 := fin_top fs1
      rw [(plain_facts _).2] at r1
      rcases high_sum hx.l2 hy.l2 hx.n2 hy.n2 hx.hi hy.hi with h | ⟨fa, fe, fs2, hle2⟩
      · omega
      · have e1 := fzs_eq g1.n2 (fin_nan fs2) (plain_facts _).2
        have h3 := (fzs_rank hy.n1 hy.n2).1 hy.le
        exact (fzs_rank hx.n2 (fin_nan fr)).2 (by omega)
theorem cast74 {x y z : Nat} (h : x * y ≤ z * 2 ^ low74) : (x : Int) * (y : Int) ≤ (z : Int) * 2 ^ low74 := by
  have h2 := Int.ofNat_le.2 h
  rw [Int.natCast_mul, Int.natCast_mul, Int.natCast_pow] at h2
  exact h2
theorem cast74b {x y z : Nat} (h : z * 2 ^ low74 ≤ x * y) : (z : Int) * 2 ^ low74 ≤ (x : Int) * (y : Int) := by
  have h2 := Int.ofNat_le.2 h
  rw [Int.natCast_mul, Int.natCast_mul, Int.natCast_pow] at h2
  exact h2
theorem rz_neg (S e mode : Int) : frank (rz (-S) e (opp mode)) = -frank (rz S e mode) := by
  unfold rz
  by_cases h : S = 0
  · rw [if_pos (by omega), if_pos h]; decide
  · rw [if_neg (by omega), if_neg h, rnd_mirror h]
    obtain ⟨h1, h2, -⟩ := rnd_facts S e mode
    exact (neg_rank h2 h1).2.1
theorem div_neg {a e : Nat} (mode : Int) (la : a < 18446744073709551616) (fa : finB a = true) (fe : finB e = true) (ze : zeroB e = false) : frank (fdivF (fnegF a) e (opp mode)) = -frank (fdivF a e mode) := by
  have na := fin_nan fa
  obtain ⟨-, -, -, n4, n5, -⟩ := neg_facts la na
  have f2 := (fneg_fzs la fa).2
  rw [(div_fin_rank (opp mode) f2 fe ze).2, (div_fin_rank mode fa fe ze).2, n4, n5, ← rz_neg]
  congr 2
  rw [← sgi_not]
  congr 1
  exact (xor_not _ _).1
theorem div_lo {a e : Nat} (fa : finB a = true) (pe : 0 < frank e) (fe : finB e = true) (pa : 0 ≤ frank a) :
    finB (fdivF a e 1) = true ∧ fzs (fdivF a e 1) * fzs e ≤ fzs a * 2 ^ low74 := by
  obtain ⟨ze, se, -⟩ := pos_parts pe
  cases za : zeroB a with
  | true =>
    obtain ⟨h1, h2⟩ := div_fin_rank 1 fa fe ze
    have h0 : fz a = 0 := by have := zero_fzs za; have := fzs_abs a; omega
    rw [h0, quoS_zero] at h2
    have hs : ∀ s, sgi s 0 = 0 := fun s => by unfold sgi; cases s <;> rfl
    rw [hs] at h2
    have h3 : frank (rz 0 (-2201) 1) = 0 := by decide
    rw [h3] at h2
    have hz := zero_rank.1 h2
    refine ⟨fin_of_rank h1 (by omega) (by omega), ?_⟩
    rw [zero_fzs hz, zero_fzs za]
    omega
  | false =>
    have pa2 : 0 < frank a := by
      rcases Int.lt_or_le 0 (frank a) with h | h
      · exact h
      · have := zero_rank.1 (show frank a = 0 by omega)
        rw [za] at this; cases this
    obtain ⟨-, sa, -⟩ := pos_parts pa2
    obtain ⟨d1, d2, -, -, d5, -⟩ := div_encl fa fe za ze sa se
    refine ⟨d1, ?_⟩
    rw [pos_fzs d2, pos_fzs se, pos_fzs sa]
    exact cast74 d5
theorem div_hi {a e : Nat} (fa : finB a = true) (pe : 0 < frank e) (fe : finB e = true) (pa : 0 ≤ frank a) :
    nanB (fdivF a e 2) = false ∧ (frank (fdivF a e 2) = 9218868437227405312 ∨ finB (fdivF a e 2) = true ∧ fzs a * 2 ^ low74 ≤ fzs (fdivF a e 2) * fzs e) := by
  obtain ⟨ze, se, -⟩ := pos_parts pe
  obtain ⟨h1, h2⟩ := div_fin_rank 2 fa fe ze
  refine ⟨h1, ?_⟩
  cases za : zeroB a with
  | true =>
    right
    have h0 : fz a = 0 := by have := zero_fzs za; have := fzs_abs a; omega
    rw [h0, quoS_zero] at h2
    have hs : ∀ s, sgi s 0 = 0 := fun s => by unfold sgi; cases s <;> rfl
    rw [hs] at h2
    have h3 : frank (rz 0 (-2201) 2) = 0 := by decide
    rw [h3] at h2
    have hz := zero_rank.1 h2
    refine ⟨fin_of_rank h1 (by omega) (by omega), ?_⟩
    rw [zero_fzs hz, zero_fzs za]
    omega
  | false =>
    have pa2 : 0 < frank a := by
      rcases Int.lt_or_le 0 (frank a) with h | h
      · exact h
      · have := zero_rank.1 (show frank a = 0 by omega)
        rw [za] at this; cases this
    obtain ⟨-, sa, -⟩ := pos_parts pa2
    obtain ⟨-, -, d3, d4, -, d6⟩ := div_encl fa fe za ze sa se
    rcases fin_or h1 with fq | iq
    · right
      refine ⟨fq, ?_⟩
      rw [pos_fzs d3, pos_fzs se, pos_fzs sa]
      exact cast74b (d6 fq)
    · left
      rw [infB_rank iq, d3]; rfl
/-- a quotient rounded downward, by a positive divisor -/
theorem div_low {a e : Nat} (la : a < 18446744073709551616) (fa : finB a = true) (pe : 0 < frank e) (fe : finB e = true) :
    nanB (fdivF a e 1) = false ∧ (frank (fdivF a e 1) = -9218868437227405312 ∨ finB (fdivF a e 1) = true ∧ fzs (fdivF a e 1) * fzs e ≤ fzs a * 2 ^ low74) := by
  obtain ⟨ze, se, -⟩ := pos_parts pe
  obtain ⟨h1, -⟩ := div_fin_rank 1 fa fe ze
  refine ⟨h1, ?_⟩
  rcases Int.le_total 0 (frank a) with pa | pa
  · exact Or.inr (div_lo fa pe fe pa)
  · obtain ⟨e1, f1⟩ := fneg_fzs la fa
    obtain ⟨n1, n2, -⟩ := neg_rank la (fin_nan fa)
    have dn := div_neg 1 la fa fe ze
    rw [show opp 1 = 2 from rfl] at dn
    obtain ⟨k1, k2⟩ := div_hi f1 pe fe (by omega)
    rcases k2 with k2 | ⟨k2, k3⟩
    · left; omega
    · right
      have t := fin_top k2
      have fq : finB (fdivF a e 1) = true := fin_of_rank h1 (by omega) (by omega)
      refine ⟨fq, ?_⟩
      have l2 : fdivF (fnegF a) e 2 < 18446744073709551616 := fdiv_lt _
      obtain ⟨e2, f2⟩ := fneg_fzs l2 k2
      obtain ⟨m1, m2, -⟩ := neg_rank l2 k1
      have e3 : fzs (fdivF a e 1) = fzs (fnegF (fdivF (fnegF a) e 2)) := fzs_eq h1 m1 (by omega)
      rw [e3, e2, Int.neg_mul]
      rw [e1, Int.neg_mul] at k3
      omega
theorem div_high {a e : Nat} (la : a < 18446744073709551616) (fa : finB a = true) (pe : 0 < frank e) (fe : finB e = true) :
    nanB (fdivF a e 2) = false ∧ (frank (fdivF a e 2) = 9218868437227405312 ∨ finB (fdivF a e 2) = true ∧ fzs a * 2 ^ low74 ≤ fzs (fdivF a e 2) * fzs e) := by
  obtain ⟨ze, se, -⟩ := pos_parts pe
  rcases Int.le_total 0 (frank a) with pa | pa
  · exact div_hi fa pe fe pa
  · obtain ⟨h1, -⟩ := div_fin_rank 2 fa fe ze
    refine ⟨h1, ?_⟩
    right
    obtain ⟨e1, f1⟩ := fneg_fzs la fa
    obtain ⟨n1, n2, -⟩ := neg_rank la (fin_nan fa)
    have dn := div_neg 2 la fa fe ze
    rw [show opp 2 = 1 from rfl] at dn
    obtain ⟨k2, k3⟩ := div_lo f1 pe fe (by omega)
    have t := fin_top k2
    have fq : finB (fdivF a e 2) = true := fin_of_rank h1 (by omega) (by omega)
    refine ⟨fq, ?_⟩
    have l2 : fdivF (fnegF a) e 1 < 18446744073709551616 := fdiv_lt _
    obtain ⟨e2, f2⟩ := fneg_fzs l2 k2
    obtain ⟨m1, m2, -⟩ := neg_rank l2 (fin_nan k2)
    have e3 : fzs (fdivF a e 2) = fzs (fnegF (fdivF (fnegF a) e 1)) := fzs_eq h1 m1 (by omega)
    rw [e3, e2, Int.neg_mul]
    rw [e1, Int.neg_mul] at k3
    omega
theorem mul_low {q e a : Nat} (la : a < 18446744073709551616) (fa : finB a = true) (nq : nanB q = false) (pe : 0 < frank e) (fe : finB e = true)
    (h : frank q = -9218868437227405312 ∨ finB q = true ∧ fzs q * fzs e ≤ fzs a * 2 ^ low74) : rk (fmulF q e 1) ≤ frank a := by
  rcases h with h | ⟨fq, h⟩
  · have iq : infB q = true := by
      rcases fin_or nq with f | i
      · have := fin_top f; omega
      · exact i
    obtain ⟨ze, se, -⟩ := pos_parts pe
    have sq : fneg q = true := by
      have := infB_rank iq
      cases hq : fneg q with
      | true => rfl
      | false => rw [hq] at this; simp at this; omega
    rw [fmulF_comm, mul_by_inf 1 (fin_nan fe) ze iq, se, sq]
    have := rank_le (fin_nan fa)
    simp
    omega
  · obtain ⟨h1, h2⟩ := mul_fin_rank 1 fq fe
    rw [rk_num h1, h2, ← rz_self2 fa la 1]
    exact rz_le h 1
theorem mul_high {q e a : Nat} (la : a < 18446744073709551616) (fa : finB a = true) (nq : nanB q = false) (pe : 0 < frank e) (fe : finB e = true)
    (h : frank q = 9218868437227405312 ∨ finB q = true ∧ fzs a * 2 ^ low74 ≤ fzs q * fzs e) : frank a ≤ rk (fmulF q e 2) := by
  rcases h with h | ⟨fq, h⟩
  · have iq : infB q = true := by
      rcases fin_or nq with f | i
      · have := fin_top f; omega
      · exact i
    obtain ⟨ze, se, -⟩ := pos_parts pe
    have sq : fneg q = false := by
      have := infB_rank iq
      cases hq : fneg q with
      | false => rfl
      | true => rw [hq] at this; simp at this; omega
    rw [fmulF_comm, mul_by_inf 2 (fin_nan fe) ze iq, se, sq]
    have := rank_le (fin_nan fa)
    simp
    omega
  · obtain ⟨h1, h2⟩ := mul_fin_rank 2 fq fe
    rw [rk_num h1, h2, ← rz_self2 fa la 2]
    exact rz_le h 2
/-- dividing by a positive float and multiplying by it leads below -/
theorem quo_back_lo {a e : Nat} (la : a < 18446744073709551616) (na : nanB a = false) (ha : frank a < 9218868437227405312) (pe : 0 < frank e) (fe : finB e = true) :
    nanB (fdivF a e 1) = false ∧ rk (fmulF (fdivF a e 1) e 1) ≤ frank a := by
  rcases fin_or na with fa | ia
  · obtain ⟨n, h⟩ := div_low la fa pe fe
    exact ⟨n, mul_low la fa n pe fe h⟩
  · obtain ⟨ze, se, -⟩ := pos_parts pe
    have sa : fneg a = true := by
      rcases inf_ends ia with ⟨h1, _⟩ | ⟨_, h2⟩
      · exact h1
      · omega
    have hq := div_of_inf 1 ia fe ze se
    rw [sa] at hq
    have hn : nanB (fdivF a e 1) = false := by
      cases h : nanB (fdivF a e 1) with
      | false => rfl
      | true => rw [rk_nan h] at hq; simp at hq
    rw [rk_num hn] at hq
    refine ⟨hn, ?_⟩
    have iq : infB (fdivF a e 1) = true := by
      rcases fin_or hn with f | i
      · have := fin_top f; simp at hq; omega
      · exact i
    have sq : fneg (fdivF a e 1) = true := by
      have := infB_rank iq
      cases h : fneg (fdivF a e 1) with
      | true => rfl
      | false => rw [h] at this; simp at this hq; omega
    rw [fmulF_comm, mul_by_inf 1 (fin_nan fe) ze iq, se, sq]
    have := rank_le na
    simp
    omega
theorem quo_back_hi {a e : Nat} (la : a < 18446744073709551616) (na : nanB a = false) (ha : -9218868437227405312 < frank a) (pe : 0 < frank e) (fe : finB e = true) :
    nanB (fdivF a e 2) = false ∧ frank a ≤ rk (fmulF (fdivF a e 2) e 2) := by
  rcases fin_or na with fa | ia
  · obtain ⟨n, h⟩ := div_high la fa pe fe
    exact ⟨n, mul_high la fa n pe fe h⟩
  · obtain ⟨ze, se, -⟩ := pos_parts pe
    have sa : fneg a = false := by
      rcases inf_ends ia with ⟨_, h2⟩ | ⟨h1, _⟩
      · omega
      · exact h1
    have hq := div_of_inf 2 ia fe ze se
    rw [sa] at hq
    have hn : nanB (fdivF a e 2) = false := by
      cases h : nanB (fdivF a e 2) with
      | false => rfl
      | true => rw [rk_nan h] at hq; simp at hq
    rw [rk_num hn] at hq
    refine ⟨hn, ?_⟩
    have iq : infB (fdivF a e 2) = true := by
      rcases fin_or hn with f | i
      · have := fin_top f; simp at hq; omega
      · exact i
    have sq : fneg (fdivF a e 2) = false := by
      have := infB_rank iq
      cases h : fneg (fdivF a e 2) with
      | false => rfl
      | true => rw [h] at this; simp at this hq; omega
    rw [fmulF_comm, mul_by_inf 2 (fin_nan fe) ze iq, se, sq]
    have := rank_le na
    simp
    omega
theorem mul_negs {t e : Nat} (lt : t < 18446744073709551616) (le : e < 18446744073709551616) (m m' : Int) (h : opp m' = m) (h' : opp m = m') : rk (fmulF (fnegF t) (fnegF e) m) = rk (fmulF t e m) := by
  have h1 := fmul_mirror (b := fnegF e) lt m'
  rw [h] at h1
  have h2 := fmul_mirror (b := t) le m
  rw [h'] at h2
  rw [h1, rk_neg (fmul_lt2 _ _ _), fmulF_comm t, h2, rk_neg (fmul_lt2 _ _ _), fmulF_comm e]
  omega
theorem lo4_le (f : Nat → Nat → Int → Nat) (a b c d : Nat) : lo4 f a b c d ≤ rk (f a c 1) ∧ lo4 f a b c d ≤ rk (f a d 1) ∧ lo4 f a b c d ≤ rk (f b c 1) ∧ lo4 f a b c d ≤ rk (f b d 1) := by
  unfold lo4 min4; omega
theorem le_hi4 (f : Nat → Nat → Int → Nat) (a b c d : Nat) : rk (f a c 2) ≤ hi4 f a b c d ∧ rk (f a d 2) ≤ hi4 f a b c d ∧ rk (f b c 2) ≤ hi4 f a b c d ∧ rk (f b d 2) ≤ hi4 f a b c d := by
  unfold hi4 max4; omega
theorem quo_undo {a b e f : Nat} (hx : Good a b) (hy : Good e f) (h0 : containsF e f = false) :
    subF a b (plainF (cornLo fmulF (plainF (cornLo fdivF a b e f)) (plainF (cornHi fdivF a b e f)) e f)) (plainF (cornHi fmulF (plainF (cornLo fdivF a b e f)) (plainF (cornHi fdivF a b e f)) e f)) = true := by
  obtain ⟨gq, eq1, eq2⟩ := div_good hx hy h0
  have gp := gq.plain
  have ep1 : frank (plainF (cornLo fdivF a b e f)) = lo4 fdivF a b e f := by rw [(plain_facts _).2, eq1]
  have ep2 : frank (plainF (cornHi fdivF a b e f)) = hi4 fdivF a b e f := by rw [(plain_facts _).2, eq2]
  generalize plainF (cornLo fdivF a b e f) = p at *
  generalize plainF (cornHi fdivF a b e f) = q at *
  obtain ⟨gm, em1, em2⟩ := mul_good gp hy
  have gr := gm.plain
  have L1 := lo4_le fdivF a b e f
  have H1 := le_hi4 fdivF a b e f
  have L2 := lo4_le fmulF p q e f
  have H2 := le_hi4 fmulF p q e f
  rcases no_zero hy h0 with pe | nf
  · have fe : finB e = true := fin_of_rank hy.n1 (by omega) hy.lo
    refine hx.sub gr ?_ ?_
    · rw [(plain_facts _).2, em1]
      obtain ⟨n, k⟩ := quo_back_lo hx.l1 hx.n1 hx.lo pe fe
      have c := mul_mono_pos 1 gp.n1 n hy.n1 (Int.le_of_lt pe) (by rw [ep1, ← rk_num n]; exact L1.1)
      omega
    · rw [(plain_facts _).2, em2]
      obtain ⟨n, k⟩ := quo_back_hi hx.l2 hx.n2 hx.hi pe fe
      have c := mul_mono_pos 2 n gp.n2 hy.n1 (Int.le_of_lt pe) (by rw [ep2, ← rk_num n]; exact H1.2.2.1)
      omega
  · have ff : finB f = true := fin_of_rank hy.n2 hy.hi (by omega)
    obtain ⟨pd, -, t2, t3⟩ := div_turn (u := a) 1 (t := f) ⟨hy.l2, hy.n2, nf⟩
    have fg := t3 ff
    refine hx.sub gr ?_ ?_
    · rw [(plain_facts _).2, em1]
      obtain ⟨n, k⟩ := quo_back_lo hx.l1 hx.n1 hx.lo pd.2.2 fg
      obtain ⟨-, t1, -, -⟩ := div_turn (u := a) 2 (t := f) ⟨hy.l2, hy.n2, nf⟩
      rw [show opp 2 = 1 from rfl] at t1
      have l1 : fdivF a (fnegF f) 1 < 18446744073709551616 := fdiv_lt _
      have l2 : fdivF a f 2 < 18446744073709551616 := fdiv_lt _
      have n2 := neg_rank gp.l2 gp.n2
      -- the greater quotient, negated, is below the quotient by -f
      have hle : frank (fnegF q) ≤ frank (fdivF a (fnegF f) 1) := by
        rw [n2.2.1, ← rk_num n, ep2]
        have := H1.2.1
        omega
      have c := mul_mono_pos 1 n2.1 n pd.2.1 (Int.le_of_lt pd.2.2) hle
      rw [mul_negs gp.l2 hy.l2 1 2 rfl rfl] at c
      have := L2.2.2.2
      omega
    · rw [(plain_facts _).2, em2]
      obtain ⟨n, k⟩ := quo_back_hi hx.l2 hx.n2 hx.hi pd.2.2 fg
      obtain ⟨-, t1, -, -⟩ := div_turn (u := b) 1 (t := f) ⟨hy.l2, hy.n2, nf⟩
      rw [show opp 1 = 2 from rfl] at t1
      have n2 := neg_rank gp.l1 gp.n1
      have hle : frank (fdivF b (fnegF f) 2) ≤ frank (fnegF p) := by
        rw [n2.2.1, ← rk_num n, ep1]
        have := L1.2.2.2
        omega
      have c := mul_mono_pos 2 n n2.1 pd.2.1 (Int.le_of_lt pd.2.2) hle
      rw [mul_negs gp.l1 hy.l2 2 1 rfl rfl] at c
      have := H2.2.1
      omega
theorem sqrs_in {a b : Nat} (h : Good a b) :
    subF (plainF (fmulF (migF a b) (migF a b) 1)) (plainF (fmulF (magF a b) (magF a b) 2)) (plainF (cornLo fmulF a b a b)) (plainF (cornHi fmulF a b a b)) = true := by
  obtain ⟨n1, n2, e1, e2⟩ := size_facts h
  have g := (sqr_good h).plain
  obtain ⟨gm, m1, m2⟩ := mul_good h h
  have L := lo4_le fmulF a b a b
  have H := le_hi4 fmulF a b a b
  have na := neg_rank h.l1 h.n1
  have nb := neg_rank h.l2 h.n2
  have hle := h.le
  refine g.sub gm.plain ?_ ?_
  · rw [(plain_facts _).2, (plain_facts _).2, m1]
    have s1 := sqr_num 1 n1
    have s2 := sqr_num 1 h.n1
    have s3 := sqr_num 1 nb.1
    by_cases hc : frank a ≤ 0 ∧ 0 ≤ frank b
    · rw [if_pos hc] at e2
      have z0 := mul_by_zero 1 n1 (zero_rank.1 e2)
      rw [rk_num s1] at z0
      have hz : frank 0 = 0 := by decide
      have c := mul_mono_pos (t := a) (t' := 0) 1 h.n1 (by decide) h.n2 hc.2 (by omega)
      have z1 := mul_by_zero (t := b) (e := 0) 1 h.n2 (by decide)
      rw [fmulF_comm] at z1
      omega
    · rw [if_neg hc] at e2
      rcases Int.lt_or_le 0 (frank a) with ha | ha
      · rw [if_neg (by omega), if_neg (by omega)] at e2
        have c := sqr_mono (p := a) (q := migF a b) 1 h.n1 n1 (by omega) (by omega)
        rw [← rk_num s2] at c
        omega
      · have hb : frank b < 0 := by omega
        rw [if_pos (by omega), if_pos hb] at e2
        have c := sqr_mono (p := fnegF b) (q := migF a b) 1 nb.1 n1 (by omega) (by omega)
        rw [← rk_num s3, mul_negs h.l2 h.l2 1 2 rfl rfl] at c
        omega
  · rw [(plain_facts _).2, (plain_facts _).2, m2]
    have s1 := sqr_num 2 n2
    have s2 := sqr_num 2 h.n1
    have s3 := sqr_num 2 na.1
    have s4 := sqr_num 2 h.n2
    have s5 := sqr_num 2 nb.1
    have h0 : 0 ≤ frank (magF a b) := by rw [e1]; split <;> split <;> omega
    have hc : frank (magF a b) ≤ frank a ∨ frank (magF a b) ≤ frank (fnegF a) ∨ frank (magF a b) ≤ frank b ∨ frank (magF a b) ≤ frank (fnegF b) := by
      rw [na.2.1, nb.2.1, e1]; split <;> split <;> omega
    rcases hc with c | c | c | c
    · have := sqr_mono 2 n2 h.n1 h0 c
      rw [← rk_num s2] at this; omega
    · have := sqr_mono 2 n2 na.1 h0 c
      rw [← rk_num s3, mul_negs h.l1 h.l1 2 1 rfl rfl] at this; omega
    · have := sqr_mono 2 n2 h.n2 h0 c
      rw [← rk_num s4] at this; omega
    · have := sqr_mono 2 n2 nb.1 h0 c
      rw [← rk_num s5, mul_negs h.l2 h.l2 2 1 rfl rfl] at this; omega
theorem fsqrt_zero_rank {x : Nat} (h : zeroB x = true) (mode : Int) : fsqrtF x mode = x := by unfold fsqrtF; rw [h]; rfl
theorem fsqrt_top {x : Nat} (h : x = 9218868437227405312) (mode : Int) : fsqrtF x mode = x := by unfold fsqrtF; rw [h]; simp
theorem fsqrt_fin {x : Nat} (fx : finB x = true) (p : 0 < frank x) (mode : Int) : fsqrtF x mode = rootV (fdy x) mode := by
  obtain ⟨zx, sx, -⟩ := pos_parts p
  have h2 : x ≠ 9218868437227405312 := fun h => by rw [h] at fx; revert fx; decide
  unfold fsqrtF
  rw [zx, decide_eq_false h2, (fin_not fx).1, sx]
  rfl
/-- roots of floats that are not negative -/
theorem fsqrt_encl {x : Nat} (fx : finB x = true) (p : 0 ≤ frank x) :
    (finB (fsqrtF x 1) = true ∧ 0 ≤ frank (fsqrtF x 1) ∧ fzs (fsqrtF x 1) * fzs (fsqrtF x 1) ≤ fzs x * 2 ^ low74) ∧
    nanB (fsqrtF x 2) = false ∧ 0 ≤ frank (fsqrtF x 2) ∧ (frank (fsqrtF x 2) = 9218868437227405312 ∨ finB (fsqrtF x 2) = true ∧ fzs x * 2 ^ low74 ≤ fzs (fsqrtF x 2) * fzs (fsqrtF x 2)) := by
  rcases Int.lt_or_le 0 (frank x) with h | h
  · obtain ⟨zx, sx, -⟩ := pos_parts h
    have hi : Is (fdy x) (1074 + 1074) ((fz x * 2 ^ low74 : Nat) : Int) := by
      have h1 := fdy_up fx
      rw [pos_fzs sx] at h1
      rw [Int.natCast_mul, Int.natCast_pow]
      exact h1
    obtain ⟨r1, r2, r3, r4⟩ := rootV_encl hi
    rw [fsqrt_fin fx h, fsqrt_fin fx h, pos_fzs sx]
    have key : ∀ r, r ≤ 9218868437227405312 → nanB r = false ∧ fneg r = false ∧ frank r = (r : Int) := fun r hr => by
      have h1 := fmag_sgz false (f := r) (by omega)
      rw [show sgz false + r = r from by unfold sgz; simp] at h1
      have h2 := rank_sgz false (f := r) hr
      rw [show sgz false + r = r from by unfold sgz; simp] at h2
      have h3 := (nan_mag false (f := r) hr).1
      rw [show sgz false + r = r from by unfold sgz; simp] at h3
      exact ⟨h3, h1.2, by simpa using h2⟩
    obtain ⟨a1, a2, a3⟩ := key _ (Nat.le_of_lt r1)
    obtain ⟨b1, b2, b3⟩ := key _ r3
    refine ⟨⟨fin_of_rank a1 (by omega) (by omega), by omega, ?_⟩, b1, by omega, ?_⟩
    · rw [pos_fzs a2]
      exact cast74 r2
    · by_cases he : rootV (fdy x) 2 < 9218868437227405312
      · right
        refine ⟨fin_of_rank b1 (by omega) (by omega), ?_⟩
        rw [pos_fzs b2]
        exact cast74b (r4 he)
      · left; omega
  · have hz := zero_rank.1 (show frank x = 0 by omega)
    rw [fsqrt_zero_rank hz, fsqrt_zero_rank hz, zero_fzs hz]
    refine ⟨⟨fx, p, by omega⟩, fin_nan fx, p, Or.inr ⟨fx, by omega⟩⟩
theorem sq_back {x y : Int} (hx : 0 ≤ x) (hy : 0 ≤ y) (h : x * x ≤ y * y) : x ≤ y := by
  rcases Int.lt_or_le y x with h1 | h1
  · have h2 : y * y ≤ y * x := Int.mul_le_mul_of_nonneg_left (Int.le_of_lt h1) hy
    have h3 : y * x < x * x := Int.mul_lt_mul_of_pos_right h1 (by omega)
    omega
  · exact h1
noncomputable def rootLo (s : Nat) : Nat := plainF (fsqrtF (greatF [0, s]) 1)
noncomputable def rootHi (t : Nat) : Nat := plainF (fsqrtF t 2)

theorem rootLo_lt (s : Nat) (h : s < 18446744073709551616) : rootLo s < 18446744073709551616 := plainF_lt (fsqrtF_lt (greatF_lt (two_lt (by omega) h)) 1)
theorem rootHi_lt (s : Nat) (h : s < 18446744073709551616) : rootHi s < 18446744073709551616 := plainF_lt (fsqrtF_lt h 2)
theorem fzs_nonneg {x : Nat} (fx : finB x = true) (h : 0 ≤ frank x) : 0 ≤ fzs x := (fzs_sign (fin_nan fx)).1.1 h
theorem root_good {s t : Nat} (h : Good s t) (h0 : 0 ≤ frank t) : Good (fsqrtF (greatF [0, s]) 1) (fsqrtF t 2) ∧ frank (greatF [0, s]) = max 0 (frank s) := by
  obtain ⟨g1, g2⟩ := great_two (a := 0) (c := s) (by decide) h.n1
  have hz : frank 0 = 0 := by decide
  rw [hz] at g2
  have hlo := h.lo
  have hle := h.le
  have gl : greatF [0, s] < 18446744073709551616 := greatF_lt (two_lt (by omega) h.l1)
  have fg : finB (greatF [0, s]) = true := fin_of_rank g1 (by omega) (by omega)
  obtain ⟨⟨a1, a2, a3⟩, -⟩ := fsqrt_encl fg (by omega)
  have at1 := fin_top a1
  refine ⟨?_, g2⟩
  rcases fin_or h.n2 with ft | it
  · obtain ⟨-, b1, b2, b3⟩ := fsqrt_encl ft h0
    refine ⟨fsqrtF_lt gl _, fsqrtF_lt h.l2 _, fin_nan a1, b1, ?_, at1.2, by omega⟩
    rcases b3 with b3 | ⟨b3, b4⟩
    · omega
    · have hm := (fzs_rank g1 h.n2).1 (by omega)
      have hP : (0 : Int) < 2 ^ low74 := Int.pow_pos (by omega)
      have hmm : fzs (greatF [0, s]) * 2 ^ low74 ≤ fzs t * 2 ^ low74 := Int.mul_le_mul_of_nonneg_right hm (Int.le_of_lt hP)
      exact (fzs_rank (fin_nan a1) (fin_nan b3)).2 (sq_back (fzs_nonneg a1 a2) (fzs_nonneg b3 b2) (by omega))
  · have ht : t = 9218868437227405312 := (rank_is_inf h.l2).1 (by
      rcases inf_ends it with ⟨_, h2⟩ | ⟨_, h2⟩ <;> omega)
    have e := fsqrt_top ht 2
    refine ⟨fsqrtF_lt gl _, fsqrtF_lt h.l2 _, fin_nan a1, by rw [e]; exact h.n2, by rw [e]; have := (rank_is_inf h.l2).2 ht; omega, at1.2, by rw [e]; omega⟩
theorem root_undo {a b : Nat} (h : Good a b) (h0 : 0 ≤ frank a) :
    0 ≤ frank (plainF (fmulF (magF a b) (magF a b) 2)) ∧ subF a b (rootLo (plainF (fmulF (migF a b) (migF a b) 1))) (rootHi (plainF (fmulF (magF a b) (magF a b) 2))) = true := by
  obtain ⟨n1, n2, e1, e2⟩ := size_facts h
  have gs := sqr_good h
  have hle := h.le
  have hlo := h.lo
  have er1 : frank (migF a b) = frank a := by rw [e2]; split <;> (try split) <;> (try split) <;> omega
  have er2 : frank (magF a b) = frank b := by rw [e1]; split <;> (try split) <;> omega
  have g := gs.plain
  have q1 := (plain_facts (fmulF (migF a b) (migF a b) 1)).2
  have q2 := (plain_facts (fmulF (magF a b) (magF a b) 2)).2
  have s1 := sqr_num 1 n1
  have s2 := sqr_num 2 n2
  have fa : finB a = true := fin_of_rank h.n1 (by omega) hlo
  have fm : finB (migF a b) = true := fin_of_rank n1 (by omega) (by omega)
  have za := fzs_nonneg fa h0
  obtain ⟨k1, k2⟩ := mul_fin_rank 1 fm fm
  rw [fzs_eq n1 h.n1 er1] at k2
  obtain ⟨z1, z2⟩ := rz_facts (fzs a * fzs a) (-2148) 1
  have hsq : 0 ≤ fzs a * fzs a := Int.mul_nonneg za za
  have k0 := (rz_sign (fzs a * fzs a) (-2148) 1).1 hsq
  have t0 : 0 ≤ frank (plainF (fmulF (magF a b) (magF a b) 2)) := by have := g.le; omega
  obtain ⟨G, gr⟩ := root_good g t0
  refine ⟨t0, ?_⟩
  unfold rootLo rootHi
  refine h.sub G.plain ?_ ?_
  · rw [(plain_facts _).2]
    obtain ⟨gn, -⟩ := great_two (a := 0) (c := plainF (fmulF (migF a b) (migF a b) 1)) (by decide) g.n1
    have glo := g.lo
    generalize plainF (fmulF (migF a b) (migF a b) 1) = s at *
    have fg : finB (greatF [0, s]) = true := fin_of_rank gn (by omega) (by omega)
    obtain ⟨⟨a1, a2, a3⟩, -⟩ := fsqrt_encl fg (by omega)
    have fr : finB (rz (fzs a * fzs a) (-2148) 1) = true := fin_of_rank z1 (by omega) (by omega)
    have r2 := (rz_encl2 (fzs a * fzs a)).1 fr
    rw [← fzs_eq gn z1 (by omega)] at r2
    exact (fzs_rank (fin_nan a1) h.n1).2 (sq_back (fzs_nonneg a1 a2) za (by omega))
  · rw [(plain_facts _).2]
    have bn := h.hi
    rcases fin_or g.n2 with ft | it
    · obtain ⟨-, b1, b2, b3⟩ := fsqrt_encl ft t0
      rcases b3 with b3 | ⟨b3, b4⟩
      · have := rank_le h.n2; omega
      · have ftt := fin_top ft
        have fb : finB b = true := by
          rcases fin_or h.n2 with f | i
          · exact f
          · exfalso
            have hb : frank b = 9218868437227405312 := by rcases inf_ends i with ⟨_, h2⟩ | ⟨_, h2⟩ <;> omega
            have im : infB (magF a b) = true := by
              rcases fin_or n2 with f | i2
              · have := fin_top f; omega
              · exact i2
            obtain ⟨zm, sm, -⟩ := pos_parts (t := magF a b) (by omega)
            have := mul_by_inf 2 n2 zm im
            rw [rk_num s2, sm] at this
            simp at this
            omega
        have fM : finB (magF a b) = true := fin_of_rank n2 (by have := fin_top fb; omega) (by have := fin_top fb; omega)
        obtain ⟨l1, l2⟩ := mul_fin_rank 2 fM fM
        rw [fzs_eq n2 h.n2 er2] at l2
        obtain ⟨y1, y2⟩ := rz_facts (fzs b * fzs b) (-2148) 2
        have fr : finB (rz (fzs b * fzs b) (-2148) 2) = true := fin_of_rank y1 (by omega) (by omega)
        have r2 := (rz_encl2 (fzs b * fzs b)).2 fr
        rw [← fzs_eq g.n2 y1 (by omega)] at r2
        exact (fzs_rank h.n2 (fin_nan b3)).2 (sq_back (fzs_nonneg fb (by omega)) (fzs_nonneg b3 b2) (by omega))
    · have ht : plainF (fmulF (magF a b) (magF a b) 2) = 9218868437227405312 := (rank_is_inf g.l2).1 (by
        rcases inf_ends it with ⟨_, h2⟩ | ⟨_, h2⟩ <;> omega)
      rw [fsqrt_top ht]
      have := rank_le h.n2
      have := (rank_is_inf g.l2).2 ht
      omega
end Go.Proofs.YtekocoklfnojmaaDoor
