import Derived.Test.YtekocoklfnojmaaGreatDoorIHoldsU42
import Derived.Test.YtekocoklfnojmaaGreatDoorIHoldsU43
namespace Go.Proofs.YtekocoklfnojmaaGreatDoor

/-- two bounds that make a valid interval -/
structure Good (p q : Nat) : Prop where
  l1 : p < 18446744073709551616
  l2 : q < 18446744073709551616
  n1 : nanB p = false
  n2 : nanB q = false
  le : frank p ≤ frank q
  lo : frank p < 9218868437227405312
  hi : -9218868437227405312 < frank q
theorem Good.of {a b : Nat} (ha : a < 18446744073709551616) (hb : b < 18446744073709551616) (h : validF a b = true) : Good a b := by
  obtain ⟨v1, v2, v3, v4, v5⟩ := (valid_iff ha hb).1 h
  exact ⟨ha, hb, v1, v2, v3, v4, v5⟩
theorem Good.valid {a b : Nat} (h : Good a b) : validF a b = true := (valid_iff h.l1 h.l2).2 ⟨h.n1, h.n2, h.le, h.lo, h.hi⟩
theorem Good.plain {a b : Nat} (h : Good a b) : Good (plainF a) (plainF b) := by
  obtain ⟨p1, p2⟩ := plain_facts a
  obtain ⟨q1, q2⟩ := plain_facts b
  exact ⟨plainF_lt h.l1, plainF_lt h.l2, by rw [p1]; exact h.n1, by rw [q1]; exact h.n2, by rw [p2, q2]; exact h.le, by rw [p2]; exact h.lo, by rw [q2]; exact h.hi⟩
theorem Good.sub {p q p' q' : Nat} (h : Good p q) (h' : Good p' q') (h1 : frank p' ≤ frank p) (h2 : frank q ≤ frank q') : subF p q p' q' = true := by
  rw [sub_rank h.valid h'.valid, decide_eq_true h1, decide_eq_true h2]; rfl
theorem Good.point {a b : Nat} (h : Good a b) : ∃ t, Nm t ∧ finB t = true ∧ frank a ≤ frank t ∧ frank t ≤ frank b := valid_point2 h.l1 h.l2 h.valid
theorem good_whole : Good 18442240474082181120 9218868437227405312 := by
  have e1 : frank 18442240474082181120 = -9218868437227405312 := by decide +kernel
  have e2 : frank 9218868437227405312 = 9218868437227405312 := by decide +kernel
  exact ⟨by omega, by omega, by decide, by decide, by rw [e1, e2]; omega, by rw [e1]; omega, by rw [e2]; omega⟩
theorem add_fin_rank {a b : Nat} (mode : Int) (fa : finB a = true) (fb : finB b = true) (lb : b < 18446744073709551616) : nanB (faddF a b mode) = false ∧ frank (faddF a b mode) = frank (rz (fzs a + fzs b) (-1074) mode) := by
  refine ⟨(add_num mode fa fb lb).1, ?_⟩
  obtain ⟨h1, h2⟩ := add_fin mode fa fb lb
  by_cases h : fzs a + fzs b = 0
  · rw [frank_zero (h1 h), h]
    exact (frank_zero (by unfold rz; rw [if_pos rfl]; decide)).symm
  · rw [h2 h]; unfold rz; rw [if_neg h]
theorem add_infL {a b : Nat} (mode : Int) (lb : b < 18446744073709551616) (ia : infB a = true) (hb : nanB b = false) (h : infB b = true → fneg b = fneg a) : faddF a b mode = 9218868437227405312 + sgz (fneg a) := by
  unfold faddF
  rw [add_form, (inf_not ia).1, hb, ia]
  simp only [Bool.or_false, Bool.true_and, Bool.false_eq_true, if_false, if_true]
  cases ib : infB b with
  | true =>
    have := inf_val lb ib
    rw [h ib] at this
    rw [this]; simp
  | false => simp
theorem add_infR {a b : Nat} (mode : Int) (la : a < 18446744073709551616) (lb : b < 18446744073709551616) (ib : infB b = true) (ha : nanB a = false) (h : infB a = true → fneg a = fneg b) : faddF a b mode = 9218868437227405312 + sgz (fneg b) := by
  rw [faddF_comm la lb]
  exact add_infL mode la ib ha h
theorem inf_facts (s : Bool) : nanB (9218868437227405312 + sgz s) = false ∧ frank (9218868437227405312 + sgz s) = if s then -9218868437227405312 else 9218868437227405312 := by
  rw [Nat.add_comm]
  exact ⟨by cases s <;> decide, by rw [rank_sgz _ (Nat.le_refl _)]; rfl⟩
/-- lower bounds -/
theorem add_low {a e : Nat} (la : a < 18446744073709551616) (le : e < 18446744073709551616) (na : nanB a = false) (ne : nanB e = false) (ha : frank a < 9218868437227405312) (he : frank e < 9218868437227405312) : nanB (faddF a e 1) = false ∧ frank (faddF a e 1) < 9218868437227405312 := by
  have key : ∀ x, frank x < 9218868437227405312 → infB x = true → fneg x = true := fun x hx hi => by
    rcases inf_ends hi with ⟨h1, _⟩ | ⟨_, h2⟩
    · exact h1
    · omega
  rcases fin_or na with fa | ia
  · rcases fin_or ne with fe | ie
    · obtain ⟨h1, h2⟩ := add_fin_rank 1 fa fe le
      exact ⟨h1, by rw [h2]; exact (rz_dirs _ _).1⟩
    · rw [add_infR 1 la le ie na (fun h => absurd h (by rw [(fin_not fa).2]; decide)), key e he ie]
      exact ⟨(inf_facts true).1, by rw [(inf_facts true).2]; simp⟩
  · rw [add_infL 1 le ia ne (fun h => by rw [key e he h, key a ha ia]), key a ha ia]
    exact ⟨(inf_facts true).1, by rw [(inf_facts true).2]; simp⟩
/-- upper bounds -/
theorem add_high {a e : Nat} (la : a < 18446744073709551616) (le : e < 18446744073709551616) (na : nanB a = false) (ne : nanB e = false) (ha : -9218868437227405312 < frank a) (he : -9218868437227405312 < frank e) : nanB (faddF a e 2) = false ∧ -9218868437227405312 < frank (faddF a e 2) := by
  have key : ∀ x, -9218868437227405312 < frank x → infB x = true → fneg x = false := fun x hx hi => by
    rcases inf_ends hi with ⟨_, h2⟩ | ⟨h1, _⟩
    · omega
    · exact h1
  rcases fin_or na with fa | ia
  · rcases fin_or ne with fe | ie
    · obtain ⟨h1, h2⟩ := add_fin_rank 2 fa fe le
      exact ⟨h1, by rw [h2]; exact (rz_dirs _ _).2.2⟩
    · rw [add_infR 2 la le ie na (fun h => absurd h (by rw [(fin_not fa).2]; decide)), key e he ie]
      exact ⟨(inf_facts false).1, by rw [(inf_facts false).2]; simp⟩
  · rw [add_infL 2 le ia ne (fun h => by rw [key e he h, key a ha ia]), key a ha ia]
    exact ⟨(inf_facts false).1, by rw [(inf_facts false).2]; simp⟩
theorem add_finL {t e : Nat} (mode : Int) (lt : t < 18446744073709551616) (le : e < 18446744073709551616) (ft : finB t = true) (ne : nanB e = false) : nanB (faddF t e mode) = false := by
  rcases fin_or ne with fe | ie
  · exact (add_fin_rank mode ft fe le).1
  · rw [add_infR mode lt le ie (fin_not ft).1 (fun h => absurd h (by rw [(fin_not ft).2]; decide))]
    exact (inf_facts _).1
theorem add_monoR {f g h : Nat} (mode : Int) (hf : f < 18446744073709551616) (hg : g < 18446744073709551616) (hh : h < 18446744073709551616) (hfn : nanB f = false) (hgn : nanB g = false) (hle : frank f ≤ frank g)
    (h1 : nanB (faddF h f mode) = false) (h2 : nanB (faddF h g mode) = false) : frank (faddF h f mode) ≤ frank (faddF h g mode) := by
  rw [faddF_comm hh hf, faddF_comm hh hg] at *
  exact add_mono mode hf hg hh hfn hgn hle h1 h2
theorem add_good {a b e f : Nat} (h : Good a b) (h' : Good e f) : Good (faddF a e 1) (faddF b f 2) := by
  obtain ⟨n1, lo⟩ := add_low h.l1 h'.l1 h.n1 h'.n1 h.lo h'.lo
  obtain ⟨n2, hi⟩ := add_high h.l2 h'.l2 h.n2 h'.n2 h.hi h'.hi
  obtain ⟨t, ⟨lt, nt⟩, ft, t1, t2⟩ := h.point
  obtain ⟨u, ⟨lu, nu⟩, fu, u1, u2⟩ := h'.point
  have s1 := add_mono 1 h.l1 lt h'.l1 h.n1 nt t1 n1 (add_finL 1 lt h'.l1 ft h'.n1)
  have s2 := add_monoR 1 h'.l1 lu lt h'.n1 nu u1 (add_finL 1 lt h'.l1 ft h'.n1) (add_finL 1 lt lu ft nu)
  obtain ⟨q1, e1⟩ := add_fin_rank 1 ft fu lu
  obtain ⟨q2, e2⟩ := add_fin_rank 2 ft fu lu
  have s3 := (rz_dirs (fzs t + fzs u) (-1074)).2.1
  rw [← e1, ← e2] at s3
  have s4 := add_monoR 2 lu h'.l2 lt nu h'.n2 u2 q2 (add_finL 2 lt h'.l2 ft h'.n2)
  have s5 := add_mono 2 lt h.l2 h'.l2 nt h.n2 t2 (add_finL 2 lt h'.l2 ft h'.n2) n2
  exact ⟨fadd_lt 1 h'.l1, fadd_lt 2 h'.l2, n1, n2, by omega, lo, hi⟩
theorem neg_good {a b : Nat} (h : Good a b) : Good (plainF (fnegF b)) (plainF (fnegF a)) ∧ frank (plainF (fnegF b)) = -frank b ∧ frank (plainF (fnegF a)) = -frank a := by
  have v := valid_plain fnegF_lt fnegF_lt (valid_neg h.l1 h.l2 h.valid)
  obtain ⟨p1, p2, -⟩ := neg_rank h.l1 h.n1
  obtain ⟨q1, q2, -⟩ := neg_rank h.l2 h.n2
  exact ⟨Good.of (plainF_lt fnegF_lt) (plainF_lt fnegF_lt) v, by rw [(plain_facts _).2, q2], by rw [(plain_facts _).2, p2]⟩
def cornLo (f : Nat → Nat → Int → Nat) (a b c d : Nat) : Nat := leastF ([f a c 1, f a d 1, f b c 1, f b d 1].map nz)
def cornHi (f : Nat → Nat → Int → Nat) (a b c d : Nat) : Nat := greatF ([f a c 2, f a d 2, f b c 2, f b d 2].map nz)
theorem corn_good {f : Nat → Nat → Int → Nat} {L R : Nat → Prop} (h : Mono f L R) (hf : ∀ a b mode, f a b mode < 18446744073709551616) {a b c d t u : Nat} (ha : L a) (hb : L b) (hc : R c) (hd : R d) (ht : L t) (hu : R u) (ft : finB t = true) (fu : finB u = true) (h1 : frank a ≤ frank t) (h2 : frank t ≤ frank b) (h3 : frank c ≤ frank u) (h4 : frank u ≤ frank d) :
    Good (cornLo f a b c d) (cornHi f a b c d) ∧ frank (cornLo f a b c d) = lo4 f a b c d ∧ frank (cornHi f a b c d) = hi4 f a b c d := by
  obtain ⟨p1, p2⟩ := least4_rank (f a c 1) (f a d 1) (f b c 1) (f b d 1)
  obtain ⟨q1, q2⟩ := great4_rank (f a c 2) (f a d 2) (f b c 2) (f b d 2)
  obtain ⟨g1, g2, g3⟩ := h.good ha hb hc hd ht hu ft fu h1 h2 h3 h4
  have e1 : frank (cornLo f a b c d) = lo4 f a b c d := p2
  have e2 : frank (cornHi f a b c d) = hi4 f a b c d := q2
  refine ⟨⟨leastF_lt (nz_lt rfl ?_), greatF_lt (nz_lt rfl ?_), p1, q1, by rw [e1, e2]; exact g2, by rw [e1]; exact g1, by rw [e2]; exact g3⟩, e1, e2⟩
  all_goals
    intro x hx
    simp only [List.mem_cons, List.not_mem_nil, or_false] at hx
    rcases hx with rfl | rfl | rfl | rfl <;> exact hf _ _ _
theorem Good.nm {a b : Nat} (h : Good a b) : Nm a ∧ Nm b := ⟨⟨h.l1, h.n1⟩, ⟨h.l2, h.n2⟩⟩
theorem mul_good {a b e f : Nat} (hx : Good a b) (hz : Good e f) : Good (cornLo fmulF a b e f) (cornHi fmulF a b e f) ∧ frank (cornLo fmulF a b e f) = lo4 fmulF a b e f ∧ frank (cornHi fmulF a b e f) = hi4 fmulF a b e f := by
  obtain ⟨t, nt, ft, t1, t2⟩ := hx.point
  obtain ⟨u, nu, fu, u1, u2⟩ := hz.point
  exact corn_good mul_monoF fmul_lt2 hx.nm.1 hx.nm.2 hz.nm.1 hz.nm.2 nt nu ft fu t1 t2 u1 u2
/-- a divisor that does not contain zero lies on one side -/
theorem no_zero {c d : Nat} (h : Good c d) (h0 : containsF c d = false) : 0 < frank c ∨ frank d < 0 := by
  have hz : frank 0 = 0 := frank_zero (by decide)
  unfold containsF lessF at h0
  rw [h.n1, h.n2, show nanB 0 = false by decide, hz] at h0
  simp at h0
  omega
theorem has_zero {c d : Nat} (h : Good c d) (h1 : frank c ≤ 0) (h2 : 0 ≤ frank d) : containsF c d = true := by
  have hz : frank 0 = 0 := frank_zero (by decide)
  unfold containsF lessF
  rw [h.n1, h.n2, show nanB 0 = false by decide, hz]
  simp
  omega
theorem div_good {e f c d : Nat} (hz : Good e f) (hy : Good c d) (h0 : containsF c d = false) : Good (cornLo fdivF e f c d) (cornHi fdivF e f c d) ∧ frank (cornLo fdivF e f c d) = lo4 fdivF e f c d ∧ frank (cornHi fdivF e f c d) = hi4 fdivF e f c d := by
  obtain ⟨t, nt, ft, t1, t2⟩ := hz.point
  obtain ⟨u, nu, fu, u1, u2⟩ := hy.point
  have hle := hy.le
  rcases no_zero hy h0 with h | h
  · exact corn_good div_monoP (fun _ _ _ => fdiv_lt _) hz.nm.1 hz.nm.2 ⟨hy.l1, hy.n1, h⟩ ⟨hy.l2, hy.n2, by omega⟩ nt ⟨nu.1, nu.2, by omega⟩ ft fu t1 t2 u1 u2
  · exact corn_good div_monoN (fun _ _ _ => fdiv_lt _) hz.nm.1 hz.nm.2 ⟨hy.l1, hy.n1, by omega⟩ ⟨hy.l2, hy.n2, h⟩ nt ⟨nu.1, nu.2, by omega⟩ ft fu t1 t2 u1 u2
theorem sub_zero {a b c d : Nat} (hx : Good a b) (hy : Good c d) (h1 : frank c ≤ frank a) (h2 : frank b ≤ frank d) (h0 : containsF c d = false) : containsF a b = false := by
  have hle := hx.le
  cases h : containsF a b with
  | false => rfl
  | true =>
    exfalso
    have hz : frank 0 = 0 := frank_zero (by decide)
    unfold containsF lessF at h
    rw [hx.n1, hx.n2, show nanB 0 = false by decide, hz] at h
    simp at h
    rw [has_zero hy (by omega) (by omega)] at h0
    cases h0
theorem abs_rank {a : Nat} (h : nanB a = false) : nanB (fabsF a) = false ∧ frank (fabsF a) = if frank a < 0 then -frank a else frank a := by
  have h1 := nanB_not h
  have h2 : fabsF a = fmag a := by unfold fabsF; rw [h]; rfl
  have h3 : fmag (fmag a) = fmag a := Nat.mod_eq_of_lt (fmag_lt a)
  have h4 : fneg (fmag a) = false := by unfold fneg; have := fmag_lt a; exact decide_eq_false (by omega)
  rw [h2]
  refine ⟨by unfold nanB; rw [h3]; exact decide_eq_false (by omega), ?_⟩
  unfold frank
  rw [h3, h4]
  simp only [Bool.false_eq_true, if_false]
  cases fneg a
  · simp; omega
  · simp; omega
theorem size_facts {a b : Nat} (h : Good a b) : nanB (migF a b) = false ∧ nanB (magF a b) = false ∧
    frank (magF a b) = max (if frank a < 0 then -frank a else frank a) (if frank b < 0 then -frank b else frank b) ∧
    frank (migF a b) = if frank a ≤ 0 ∧ 0 ≤ frank b then 0 else min (if frank a < 0 then -frank a else frank a) (if frank b < 0 then -frank b else frank b) := by
  obtain ⟨a1, a2⟩ := abs_rank h.n1
  obtain ⟨b1, b2⟩ := abs_rank h.n2
  obtain ⟨g1, g2⟩ := great_two a1 b1
  obtain ⟨l1, l2⟩ := least_two a1 b1
  have hz : frank 0 = 0 := frank_zero (by decide)
  have hle := h.le
  refine ⟨?_, g1, by unfold magF; rw [g2, a2, b2], ?_⟩
  · unfold migF
    split
    · decide
    · exact l1
  · unfold migF
    cases hc : containsF a b with
    | true =>
      have : frank a ≤ 0 ∧ 0 ≤ frank b := by
        unfold containsF lessF at hc
        rw [h.n1, h.n2, show nanB 0 = false by decide, hz] at hc
        simp at hc
        omega
      rw [if_pos rfl, if_pos this, hz]
    | false =>
      have := no_zero h hc
      rw [if_neg (by decide), if_neg (by omega), l2, a2, b2]
theorem sqr_num {q : Nat} (mode : Int) (hn : nanB q = false) : nanB (fmulF q q mode) = false := by
  rcases fin_or hn with hf | hi
  · exact (mul_fin_rank mode hf hf).1
  · obtain ⟨n1, n2⟩ := inf_not hi
    rw [mul_form, n1, n2, hi]
    simp
    decide
theorem fin_of_rank {p : Nat} (hn : nanB p = false) (h1 : -9218868437227405312 < frank p) (h2 : frank p < 9218868437227405312) : finB p = true := by
  rcases fin_or hn with hf | hi
  · exact hf
  · rcases inf_ends hi with ⟨_, h⟩ | ⟨_, h⟩ <;> omega
theorem sqr_mono {p q : Nat} (mode : Int) (np : nanB p = false) (nq : nanB q = false) (h0 : 0 ≤ frank p) (h : frank p ≤ frank q) : frank (fmulF p p mode) ≤ frank (fmulF q q mode) := by
  have s1 := mul_mono_pos mode np nq np h0 h
  have s2 := mul_mono_pos mode np nq nq (by omega) h
  rw [fmulF_comm p q] at s2
  rw [rk_num (sqr_num mode np)] at s1
  rw [rk_num (sqr_num mode nq)] at s2
  omega
theorem sqr_good {a b : Nat} (h : Good a b) : Good (fmulF (migF a b) (migF a b) 1) (fmulF (magF a b) (magF a b) 2) := by
  obtain ⟨n1, n2, r2, r1⟩ := size_facts h
  have hle := h.le
  have hlo := h.lo
  have hhi := h.hi
  have p0 : 0 ≤ frank (migF a b) := by rw [r1]; split <;> (try split) <;> (try split) <;> omega
  have p1 : frank (migF a b) < 9218868437227405312 := by rw [r1]; split <;> (try split) <;> (try split) <;> omega
  have p2 : frank (migF a b) ≤ frank (magF a b) := by rw [r1, r2]; split <;> (try split) <;> (try split) <;> omega
  have fp := fin_of_rank n1 (by omega) p1
  obtain ⟨a1, a2⟩ := mul_fin_rank 1 fp fp
  obtain ⟨b1, b2⟩ := mul_fin_rank 2 fp fp
  obtain ⟨d1, d2, d3⟩ := rz_dirs (fzs (migF a b) * fzs (migF a b)) (-2148)
  have s := sqr_mono 2 n1 n2 p0 p2
  rw [← a2, ← b2] at d2
  rw [← a2] at d1
  rw [← b2] at d3
  exact ⟨fmul_lt2 _ _ _, fmul_lt2 _ _ _, a1, sqr_num 2 n2, by omega, d1, by omega⟩
end Go.Proofs.YtekocoklfnojmaaGreatDoor
