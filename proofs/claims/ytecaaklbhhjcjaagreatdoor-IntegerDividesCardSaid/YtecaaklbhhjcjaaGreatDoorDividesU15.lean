import Derived.Test.YtecaaklbhhjcjaaGreatDoorDividesU0
namespace Go.Proofs.YtecaaklbhhjcjaaGreatDoor

/-- the greatest common divisor of two numbers that are not negative -/
def gz (x y : Int) : Nat := Nat.gcd x.toNat y.toNat
theorem gz_step {x y q r : Int} (hy : 0 ≤ y) (hr : 0 ≤ r) (hq : 0 ≤ q) (e : x = q * y + r) : gz y r = gz x y := by
  obtain ⟨y, rfl⟩ := Int.eq_ofNat_of_zero_le hy
  obtain ⟨r, rfl⟩ := Int.eq_ofNat_of_zero_le hr
  obtain ⟨q, rfl⟩ := Int.eq_ofNat_of_zero_le hq
  have e' : x = ((q * y + r : Nat) : Int) := by rw [e]; push_cast; rfl
  rw [e']
  unfold gz
  rw [Int.toNat_natCast, Int.toNat_natCast, Int.toNat_natCast, Nat.add_comm, Nat.mul_comm]
  rw [Nat.gcd_comm (r + y * q) y, Nat.gcd_add_mul_left_right]

/-- u, v and the cofactors a, b, c, d after some steps of Euclid's algorithm for X and Y, whose leading parts are u0 and v0 -/
structure Leh (X Y u0 v0 a b c d u v : Int) : Prop where
  hu : u = a * u0 + b * v0
  hv : v = c * u0 + d * v0
  sg : (0 ≤ a ∧ b ≤ 0 ∧ c ≤ 0 ∧ 0 ≤ d ∧ u0 = d * u - b * v ∧ v0 = a * v - c * u) ∨ (a ≤ 0 ∧ 0 ≤ b ∧ 0 ≤ c ∧ d ≤ 0 ∧ u0 = b * v - d * u ∧ v0 = c * u - a * v)
  v0 : 0 ≤ v
  vu : v ≤ u
  ul : u ≤ u0
  ba : -2147483648 < a ∧ a < 2147483648
  bb : -2147483648 < b ∧ b < 2147483648
  bc : -2147483648 < c ∧ c < 2147483648
  bd : -2147483648 < d ∧ d < 2147483648
  ua : 0 ≤ u + a
  ub : 0 ≤ u + b
  vc : 0 ≤ v + c
  vd : 0 ≤ v + d
  first : b = 0 ∧ c * X + d * Y = Y ∧ a * X + b * Y = X ∨ a * X + b * Y ≤ Y ∧ c * X + d * Y < a * X + b * Y
  ord : 0 ≤ c * X + d * Y ∧ c * X + d * Y ≤ a * X + b * Y
  gcd : gz (a * X + b * Y) (c * X + d * Y) = gz X Y

theorem Leh.start {X Y u0 v0 : Int} (h0 : 0 ≤ Y) (h1 : Y ≤ X) (h2 : 0 ≤ v0) (h3 : v0 ≤ u0) : Leh X Y u0 v0 1 0 0 1 u0 v0 := by
  refine ⟨by omega, by omega, Or.inl ⟨by omega, by omega, by omega, by omega, by omega, by omega⟩, h2, h3, by omega, by omega, by omega, by omega, by omega, by omega, by omega, by omega, by omega, Or.inl ⟨rfl, by omega, by omega⟩, ⟨by omega, by omega⟩, ?_⟩
  rw [show 1 * X + 0 * Y = X by omega, show 0 * X + 1 * Y = Y by omega]

/-- a square that is small -/
theorem sq_small {c u : Int} (h0 : 0 ≤ c) (h1 : c ≤ u) (h2 : c * u < 4611686018427387904) : c < 2147483648 := by
  rcases Int.lt_or_le c 2147483648 with h | h
  · exact h
  · exfalso
    have a1 : (2147483648 : Int) * 2147483648 ≤ c * u := Int.mul_le_mul h (by omega) (by omega) (by omega)
    omega

/-- what lies between bounds: a number of leading part u with cofactors a and b -/
theorem lead_bounds {a b u u0 v0 R x y : Int} (hu : u = a * u0 + b * v0) (hx : 0 ≤ x ∧ x < R) (hy : 0 ≤ y ∧ y < R) (h : 0 ≤ a ∧ b ≤ 0) :
    R * (u + b) ≤ a * (u0 * R + x) + b * (v0 * R + y) ∧ a * (u0 * R + x) + b * (v0 * R + y) ≤ R * (u + a) := by
  have e : a * (u0 * R + x) + b * (v0 * R + y) = R * u + a * x + b * y := by
    rw [hu, Int.mul_add a, Int.mul_add b, Int.mul_add R, ← Int.mul_assoc a, ← Int.mul_assoc b, Int.mul_comm R, Int.mul_comm R]; omega
  rw [e, Int.mul_add R, Int.mul_add R]
  have a1 : a * x ≤ a * R := Int.mul_le_mul_of_nonneg_left (by omega) h.1
  have a2 : 0 ≤ a * x := Int.mul_nonneg h.1 hx.1
  have a3 : b * R ≤ b * y := Int.mul_le_mul_of_nonpos_left h.2 (by omega)
  have a4 : b * y ≤ 0 := Int.mul_nonpos_of_nonpos_of_nonneg h.2 hy.1
  rw [Int.mul_comm R b, Int.mul_comm R a]
  omega

theorem lead_bounds' {a b u u0 v0 R x y : Int} (hu : u = a * u0 + b * v0) (hx : 0 ≤ x ∧ x < R) (hy : 0 ≤ y ∧ y < R) (h : a ≤ 0 ∧ 0 ≤ b) :
    R * (u + a) ≤ a * (u0 * R + x) + b * (v0 * R + y) ∧ a * (u0 * R + x) + b * (v0 * R + y) ≤ R * (u + b) := by
  have := lead_bounds (a := b) (b := a) (u := u) (u0 := v0) (v0 := u0) (by omega) hy hx ⟨h.2, h.1⟩
  omega

/-- a quotient that both bounds have is the quotient -/
theorem quo_sure {X Y R l1 h1 l2 h2 q : Int} (hR : 0 < R) (hl : 0 < l2) (hq : 0 ≤ q) (x1 : R * l1 ≤ X) (x2 : X ≤ R * h1) (y1 : R * l2 ≤ Y) (y2 : Y ≤ R * h2) (q1 : q * h2 ≤ l1) (q2 : h1 < (q + 1) * l2) :
    q * Y ≤ X ∧ X < (q + 1) * Y ∧ 0 < Y := by
  refine ⟨?_, ?_, ?_⟩
  · have a1 : q * Y ≤ q * (R * h2) := Int.mul_le_mul_of_nonneg_left y2 hq
    have a2 : R * (q * h2) ≤ R * l1 := Int.mul_le_mul_of_nonneg_left q1 (by omega)
    rw [Int.mul_left_comm] at a2
    omega
  · have a1 : R * h1 < R * ((q + 1) * l2) := Int.mul_lt_mul_of_pos_left q2 hR
    have a2 : (q + 1) * (R * l2) ≤ (q + 1) * Y := Int.mul_le_mul_of_nonneg_left y1 (by omega)
    rw [Int.mul_left_comm] at a1
    omega
  · have := Int.mul_pos hR hl
    omega

theorem Leh.step {X Y u0 v0 a b c d u v q R x y : Int} (h : Leh X Y u0 v0 a b c d u v) (hR : 0 < R) (hX : X = u0 * R + x) (hY : Y = v0 * R + y) (hx : 0 ≤ x ∧ x < R) (hy : 0 ≤ y ∧ y < R) (hb : u0 < 4611686018427387904) (hvu : v0 ≤ u0)
    (h1 : 0 < v + c) (h2 : 0 < v + d) (hq : (u + a) / (v + c) = q) (hq' : (u + b) / (v + d) = q) :
    Leh X Y u0 v0 c d (a - q * c) (b - q * d) v (u - q * v) ∧ (-4611686018427387904 ≤ q * c ∧ q * c ≤ 4611686018427387904) ∧ (-4611686018427387904 ≤ q * d ∧ q * d ≤ 4611686018427387904) ∧ 0 ≤ q * v ∧ q * v ≤ u ∧ u - q * v < v ∧ 0 ≤ q ∧ q ≤ u + a := by
  obtain ⟨hu, hv, sg, hv0, hvu', hul, ba, bb, bc, bd, ua, ub, vc, vd, first, ord, gcd⟩ := h
  have q0 : 0 ≤ q := by rw [← hq]; exact Int.ediv_nonneg ua (by omega)
  have qm : q ≤ u + a := by rw [← hq]; exact Int.ediv_le_self _ ua
  have e1 := Int.mul_ediv_add_emod (u + a) (v + c)
  have e2 := Int.mul_ediv_add_emod (u + b) (v + d)
  have r1 := Int.emod_nonneg (u + a) (show v + c ≠ 0 by omega)
  have r2 := Int.emod_nonneg (u + b) (show v + d ≠ 0 by omega)
  have s1 := Int.emod_lt_of_pos (u + a) h1
  have s2 := Int.emod_lt_of_pos (u + b) h2
  rw [hq] at e1
  rw [hq'] at e2
  generalize (u + a) % (v + c) = m1 at *
  generalize (u + b) % (v + d) = m2 at *
  rw [Int.mul_comm, Int.mul_add] at e1 e2
  have P : (q * (c * X + d * Y) ≤ a * X + b * Y ∧ a * X + b * Y < (q + 1) * (c * X + d * Y) ∧ 0 < c * X + d * Y) := by
    rw [hX, hY]
    rcases sg with ⟨g1, g2, g3, g4, -, -⟩ | ⟨g1, g2, g3, g4, -, -⟩
    · obtain ⟨x1, x2⟩ := lead_bounds hu hx hy ⟨g1, g2⟩
      obtain ⟨y1, y2⟩ := lead_bounds' hv hx hy ⟨g3, g4⟩
      exact quo_sure hR h1 q0 x1 x2 y1 y2 (by rw [Int.mul_add]; omega) (by rw [Int.add_mul, Int.mul_add]; omega)
    · obtain ⟨x1, x2⟩ := lead_bounds' hu hx hy ⟨g1, g2⟩
      obtain ⟨y1, y2⟩ := lead_bounds hv hx hy ⟨g3, g4⟩
      exact quo_sure hR h2 q0 x1 x2 y1 y2 (by rw [Int.mul_add]; omega) (by rw [Int.add_mul, Int.mul_add]; omega)
  obtain ⟨p1, p2, p3⟩ := P
  have en : (a - q * c) * X + (b - q * d) * Y = (a * X + b * Y) - q * (c * X + d * Y) := by
    rw [Int.sub_mul, Int.sub_mul, Int.mul_add, Int.mul_assoc, Int.mul_assoc]; omega
  have gs := gz_step (x := a * X + b * Y) (y := c * X + d * Y) (q := q) (r := (a * X + b * Y) - q * (c * X + d * Y)) (by omega) (by omega) q0 (by omega)
  rw [Int.add_mul, Int.one_mul] at p2
  have hv' : u - q * v = (a - q * c) * u0 + (b - q * d) * v0 := by
    rw [Int.sub_mul, Int.sub_mul, Int.mul_assoc, Int.mul_assoc, hu, hv, Int.mul_add]; omega
  have k1 : (b - q * d) * v = b * v - d * (q * v) := by rw [Int.sub_mul, Int.mul_comm q d, Int.mul_assoc]
  have k2 : (a - q * c) * v = a * v - c * (q * v) := by rw [Int.sub_mul, Int.mul_comm q c, Int.mul_assoc]
  have k3 : d * (u - q * v) = d * u - d * (q * v) := Int.mul_sub ..
  have k4 : c * (u - q * v) = c * u - c * (q * v) := Int.mul_sub ..
  rcases sg with ⟨g1, g2, g3, g4, i1, i2⟩ | ⟨g1, g2, g3, g4, i1, i2⟩
  · have t1 : q * c ≤ 0 := Int.mul_nonpos_of_nonneg_of_nonpos q0 g3
    have t2 : 0 ≤ q * d := Int.mul_nonneg q0 g4
    have t3 : 0 ≤ q * v := Int.mul_nonneg q0 hv0
    have n1 : 0 ≤ d * (u - q * v) := Int.mul_nonneg g4 (by omega)
    have n2 : c * (u - q * v) ≤ 0 := Int.mul_nonpos_of_nonpos_of_nonneg g3 (by omega)
    have w1 : a - q * c < 2147483648 := sq_small (u := v) (by omega) (by omega) (by omega)
    have w2 : -(b - q * d) < 2147483648 := sq_small (u := v) (by omega) (by omega) (by rw [Int.neg_mul]; omega)
    refine ⟨⟨hv, hv', Or.inr ⟨g3, g4, by omega, by omega, by omega, by omega⟩, by omega, by omega, by omega, bc, bd, ⟨by omega, w1⟩, ⟨by omega, by omega⟩, by omega, by omega, by omega, by omega, ?_, ?_, ?_⟩, ⟨by omega, by omega⟩, ⟨by omega, by omega⟩, t3, by omega, by omega, q0, qm⟩
    · right
      rw [en]
      rcases first with ⟨f1, f2, f3⟩ | f
      · omega
      · omega
    · rw [en]; omega
    · rw [en, gs, gcd]
  · have t1 : 0 ≤ q * c := Int.mul_nonneg q0 g3
    have t2 : q * d ≤ 0 := Int.mul_nonpos_of_nonneg_of_nonpos q0 g4
    have t3 : 0 ≤ q * v := Int.mul_nonneg q0 hv0
    have n1 : d * (u - q * v) ≤ 0 := Int.mul_nonpos_of_nonpos_of_nonneg g4 (by omega)
    have n2 : 0 ≤ c * (u - q * v) := Int.mul_nonneg g3 (by omega)
    have w1 : -(a - q * c) < 2147483648 := sq_small (u := v) (by omega) (by omega) (by rw [Int.neg_mul]; omega)
    have w2 : (b - q * d) < 2147483648 := sq_small (u := v) (by omega) (by omega) (by omega)
    refine ⟨⟨hv, hv', Or.inl ⟨g3, g4, by omega, by omega, by omega, by omega⟩, by omega, by omega, by omega, bc, bd, ⟨by omega, by omega⟩, ⟨by omega, w2⟩, by omega, by omega, by omega, by omega, ?_, ?_, ?_⟩, ⟨by omega, by omega⟩, ⟨by omega, by omega⟩, t3, by omega, by omega, q0, qm⟩
    · right
      rw [en]
      rcases first with ⟨f1, f2, f3⟩ | f
      · omega
      · omega
    · rw [en]; omega
    · rw [en, gs, gcd]
/-- k limbs of a X + b Y stand in L, which was O before; c is what is carried -/
def Comb (X Y O : List Int) (a b : Int) (k : Nat) (L : List Int) (c : Int) : Prop :=
  L.length = O.length ∧ Wf L ∧ L.drop k = O.drop k ∧ num (L.take k) + 4294967296 ^ k * c = a * num (X.take k) + b * num (Y.take k) ∧ -2147483648 ≤ c ∧ c ≤ 2147483648

theorem Comb.start {X Y O : List Int} (a b : Int) (h : Wf O) : Comb X Y O a b 0 O 0 := ⟨rfl, h, rfl, by simp [num], by omega, by omega⟩

/-- cofactors of a pair: small, of different signs -/
def Pair (a b : Int) : Prop := (0 ≤ a ∧ b ≤ 0 ∨ a ≤ 0 ∧ 0 ≤ b) ∧ -2147483648 < a ∧ a < 2147483648 ∧ -2147483648 < b ∧ b < 2147483648

theorem mul_range {a p : Int} (h0 : 0 ≤ a) (h1 : a < 2147483648) (p0 : 0 ≤ p) (p1 : p < 4294967296) : 0 ≤ a * p ∧ a * p ≤ 9223372030412324865 := by
  have e : (2147483647 : Int) * 4294967295 = 9223372030412324865 := by decide
  have := Int.mul_le_mul (show a ≤ 2147483647 by omega) (show p ≤ 4294967295 by omega) p0 (by omega)
  exact ⟨Int.mul_nonneg h0 p0, by omega⟩

theorem Pair.range {a b p q : Int} (h : Pair a b) (p0 : 0 ≤ p) (p1 : p < 4294967296) (q0 : 0 ≤ q) (q1 : q < 4294967296) :
    (-9223372030412324865 ≤ a * p ∧ a * p ≤ 9223372030412324865) ∧ (-9223372030412324865 ≤ b * q ∧ b * q ≤ 9223372030412324865) ∧ (-9223372030412324865 ≤ a * p + b * q ∧ a * p + b * q ≤ 9223372030412324865) := by
  obtain ⟨h | h, h1, h2, h3, h4⟩ := h
  · have a1 := mul_range h.1 h2 p0 p1
    have a2 := mul_range (a := -b) (by omega) (by omega) q0 q1
    rw [Int.neg_mul] at a2
    omega
  · have a1 := mul_range (a := -a) (by omega) (by omega) p0 p1
    have a2 := mul_range h.2 h4 q0 q1
    rw [Int.neg_mul] at a1
    omega

theorem Comb.step {X Y O L : List Int} {a b c : Int} {k : Nat} (h : Comb X Y O a b k L c) (hp : Pair a b) (hX : Wf X) (hY : Wf Y) (hx : k < X.length) (hy : k < Y.length) (ho : k < O.length) (s : Int) (hs : s = c + (a * X.getD k 0 + b * Y.getD k 0)) :
    Comb X Y O a b (k + 1) (L.set k (s % 4294967296)) (s / 4294967296) := by
  obtain ⟨h1, h2, h3, h4, h5, h6⟩ := h
  have r := hp.range (hX.getD k).1 (hX.getD k).2 (hY.getD k).1 (hY.getD k).2
  refine ⟨by simpa using h1, h2.set _ ⟨by omega, by omega⟩, ?_, ?_, by omega, by omega⟩
  · have : (L.drop k).drop 1 = (O.drop k).drop 1 := by rw [h3]
    rw [List.drop_drop, List.drop_drop] at this
    rw [← this, List.drop_set_of_lt (by omega)]
  · rw [num_take_set _ _ _ (by omega), num_take_succ X k hx, num_take_succ Y k hy, Int.pow_succ, Int.mul_add, Int.mul_add]
    have e : s % 4294967296 + 4294967296 * (s / 4294967296) = s := by omega
    have e2 : (4294967296 ^ k : Int) * (s % 4294967296) + 4294967296 ^ k * 4294967296 * (s / 4294967296) = 4294967296 ^ k * s := by
      rw [Int.mul_assoc, ← Int.mul_add, e]
    have e3 : (4294967296 ^ k : Int) * s = 4294967296 ^ k * c + (a * (4294967296 ^ k * X.getD k 0) + b * (4294967296 ^ k * Y.getD k 0)) := by
      rw [hs, Int.mul_add, Int.mul_add, Int.mul_left_comm, Int.mul_left_comm (4294967296 ^ k) b]
    omega

/-- what fits into n limbs is whole -/
theorem Comb.done {X Y O L : List Int} {a b c : Int} {n : Nat} (h : Comb X Y O a b n L c) (hY : Y.length = n) (h0 : 0 ≤ a * num X + b * num Y) (h1 : a * num X + b * num Y < 4294967296 ^ n) (ho : n ≤ O.length) :
    num (L.take n) = a * num X + b * num Y := by
  obtain ⟨g1, g2, g3, g4, g5, g6⟩ := h
  have l0 := num_nonneg (g2.take n)
  have l1 := num_lt (g2.take n)
  rw [List.length_take, Nat.min_eq_left (by omega)] at l1
  have hYt : Y.take n = Y := List.take_of_length_le (by omega)
  rw [hYt] at g4
  have e : ∃ t : Int, num (L.take n) = a * num X + b * num Y + 4294967296 ^ n * t := by
    by_cases hxl : n ≤ X.length
    · have e1 := num_append (X.take n) (X.drop n)
      rw [List.take_append_drop, List.length_take, Nat.min_eq_left hxl] at e1
      refine ⟨-c - a * num (X.drop n), ?_⟩
      rw [e1, Int.mul_add, Int.mul_sub, Int.mul_neg, Int.mul_left_comm a]
      omega
    · rw [List.take_of_length_le (show X.length ≤ n by omega)] at g4
      refine ⟨-c, ?_⟩
      rw [Int.mul_neg]
      omega
  obtain ⟨t, e⟩ := e
  have hp := pow_pos' n
  generalize (4294967296 : Int) ^ n = P at *
  generalize a * num X + b * num Y = R at *
  rcases Int.lt_trichotomy t 0 with ht | ht | ht
  · exfalso
    have : P * t ≤ P * (-1) := Int.mul_le_mul_of_nonneg_left (by omega) (by omega)
    omega
  · rw [e, ht]; omega
  · exfalso
    have : P * 1 ≤ P * t := Int.mul_le_mul_of_nonneg_left (by omega) (by omega)
    omega

/-- the cofactors that a step leaves are pairs -/
theorem Leh.pairs {X Y u0 v0 a b c d u v : Int} (h : Leh X Y u0 v0 a b c d u v) : Pair a b ∧ Pair c d := by
  obtain ⟨_, _, sg, _, _, _, ba, bb, bc, bd, _, _, _, _, _, _, _⟩ := h
  refine ⟨⟨?_, ba.1, ba.2, bb.1, bb.2⟩, ⟨?_, bc.1, bc.2, bd.1, bd.2⟩⟩
  · rcases sg with g | g
    · exact Or.inl ⟨g.1, g.2.1⟩
    · exact Or.inr ⟨g.1, g.2.1⟩
  · rcases sg with g | g
    · exact Or.inr ⟨g.2.2.1, g.2.2.2.1⟩
    · exact Or.inl ⟨g.2.2.1, g.2.2.2.1⟩

theorem Comb.cut {X Y O L : List Int} {a b c : Int} {n m : Nat} (h : Comb X Y O a b n L c) (hm : n ≤ m) : Comb (X.take m) Y O a b n L c := by
  obtain ⟨g1, g2, g3, g4, g5, g6⟩ := h
  refine ⟨g1, g2, g3, ?_, g5, g6⟩
  rw [List.take_take, Nat.min_eq_left hm]
  exact g4
theorem Comb.cutY {X Y O L : List Int} {a b c : Int} {n m : Nat} (h : Comb X Y O a b n L c) (hm : n ≤ m) : Comb X (Y.take m) O a b n L c := by
  obtain ⟨g1, g2, g3, g4, g5, g6⟩ := h
  refine ⟨g1, g2, g3, ?_, g5, g6⟩
  rw [List.take_take, Nat.min_eq_left hm]
  exact g4
end Go.Proofs.YtecaaklbhhjcjaaGreatDoor
