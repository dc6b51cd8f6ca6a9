import Derived.Test.YthicfkeiggcjjaaGreatDoorEcSlU29
import Derived.Test.YthicfkeiggcjjaaGreatDoorEcSlU31
import Derived.Test.YthicfkeiggcjjaaGreatDoorEcSlU30
namespace Go.Proofs.YthicfkeiggcjjaaGreatDoor
open Go Go.RowKit

/-- one more column -/
def wideM (n : Nat) (M : List (List Int)) (bs : List Int) : List (List Int) := (List.range n).map fun i => M.getD i [] ++ [bs.getD i 0]
theorem wide_len (n : Nat) (M : List (List Int)) (bs : List Int) : (wideM n M bs).length = n := by simp [wideM]
theorem wide_get {n i : Nat} (M : List (List Int)) (bs : List Int) (h : i < n) : (wideM n M bs).getD i [] = M.getD i [] ++ [bs.getD i 0] := by simp [wideM, List.getD, h]
theorem wide_row {n : Nat} {M : List (List Int)} (bs : List Int) (hr : ∀ i, i < n → (M.getD i []).length = n) : ∀ i, i < n → ((wideM n M bs).getD i []).length = n + 1 := fun i hi => by
  rw [wide_get M bs hi, List.length_append, hr i hi]; rfl
theorem resM_get {p : Int} {M : List (List Int)} {i : Nat} : (resM p M).getD i [] = resRow p (M.getD i []) := by
  by_cases h : i < M.length
  · simp [resM, List.getD, h]
  · simp [resM, List.getD, h, resRow]
theorem wide_cut {p : Int} {n : Nat} {M : List (List Int)} (bs : List Int) (hl : M.length = n) (hr : ∀ i, i < n → (M.getD i []).length = n) : cutM n (resM p (wideM n M bs)) = resM p M := by
  refine list_same [] (by rw [cut_len]; unfold resM; rw [List.length_map, List.length_map, wide_len, hl]) fun i hi => ?_
  have hi' : i < n := by rw [cut_len] at hi; unfold resM at hi; rw [List.length_map, wide_len] at hi; exact hi
  rw [cut_get, resM_get, resM_get, wide_get M bs hi']
  unfold resRow
  rw [List.map_append, List.take_append_of_le_length (by rw [List.length_map, hr i hi']; exact Nat.le_refl _), List.take_of_length_le (by rw [List.length_map, hr i hi']; exact Nat.le_refl _)]
theorem wide_reduce {p : Int} {n : Nat} {M : List (List Int)} (bs : List Int) (hl : M.length = n) (hr : ∀ i, i < n → (M.getD i []).length = n) :
    (reduceE p n 0 ⟨resM p M, [], 1⟩).L = (reduceE p n 0 ⟨resM p (wideM n M bs), [], 1⟩).L := by
  have h := cut_reduce (p := p) (n := n) n 0 ⟨resM p (wideM n M bs), [], 1⟩ (by omega)
  have e : cutE n ⟨resM p (wideM n M bs), [], 1⟩ = ⟨resM p M, [], 1⟩ := by
    unfold cutE
    simp only
    rw [wide_cut bs hl hr]
  rw [e] at h
  rw [h]
  rfl
/-- the solution in the last column -/
def solL (n : Nat) (S : Ech) : List Int := (List.range n).map fun i => (S.M.getD i []).getD n 0
theorem sol_mix (n : Nat) (S : Ech) : mixL (fun i => (S.M.getD i []).getD n 0) (List.replicate n 0) 0 n = solL n S := by
  have := mix_all (fun i => (S.M.getD i []).getD n 0) (List.replicate n (0 : Int)) 0
  rw [List.length_replicate] at this
  exact this

/-- a row that grows in its place -/
theorem RS.put {w0 w1 : World} {B b n cap i : Nat} {rs : List Value} {M : List (List Int)} {y : Value} {l : List Int} (h : RS w0 B (.slice (some ⟨b, 0, none⟩) n cap) rs M) (hi : i < rs.length) (hy : OZ w1 B y l)
    (hblk : ∀ k, k < w0.heap.size → (rs.getD i nilV).ownBlock ≠ some k → w1.heap[k]? = w0.heap[k]?) (hyb : ∀ k, y.ownBlock = some k → (rs.getD i nilV).ownBlock = some k ∨ w0.heap.size ≤ k) :
    RS (w1.setCell ⟨b, i, none⟩ y) B (.slice (some ⟨b, 0, none⟩) n cap) (rs.set i y) (M.set i l) := by
  have hm : i < M.length := by rw [h.len]; exact hi
  have hbl : b < w0.heap.size := (World.ownsRow.lt h.own b rfl).2
  have hnb : ∀ j, j < rs.length → (rs.getD j nilV).ownBlock ≠ some b := fun j hj e => h.nb j b hj e rfl
  have hyne : y.ownBlock ≠ some b := fun e => by
    rcases hyb b e with h1 | h1
    · exact hnb i hi h1
    · omega
  have hset : ∀ k, k ≠ b → (w1.setCell ⟨b, i, none⟩ y).heap[k]? = w1.heap[k]? := fun k hk => (only_set1 w1 b i y).block k hk
  refine ⟨?_, by rw [List.length_set, List.length_set]; exact h.len, fun j hj => ?_, fun j k x hj hk e1 e2 => ?_, fun j k hj e1 => ?_⟩
  · obtain ⟨h1, h2⟩ := h.own
    rw [List.length_set]
    refine ⟨by rw [List.length_set]; exact h1, ?_⟩
    rcases h2 with ⟨e, _⟩ | ⟨g, c2, cur, e, hbb, hg, hn, hm2, hs, ht⟩
    · cases e
    · cases e
      refine .inr ⟨b, cap, cur.setIfInBounds i y, rfl, hbb, ?_, hn, hm2, by simpa using hs, ?_⟩
      · have e1 : w1.heap[b]? = some (.cells cur 23 (0, 0)) := by rw [hblk b hbl (hnb i hi)]; exact hg
        simp [World.setCell, Array.getElem?_modify, e1]
      · rw [Nat.mul_one] at ht ⊢
        rw [Array.toList_setIfInBounds, List.take_set, ht]
  · rw [List.length_set] at hj
    by_cases hji : i = j
    · subst hji
      rw [set_at hi, set_at hm]
      exact hy.far (fun k hk => hset k (fun e => hyne (e ▸ hk)))
    · rw [set_off hji, set_off hji]
      refine (h.row j hj).far (fun k hk => ?_)
      have hkb : k ≠ b := fun e => hnb j hj (e ▸ hk)
      rw [hset k hkb, hblk k ((h.row j hj).blk k hk).2 (fun e => hji (h.ne i j k hi hj e hk))]
  · rw [List.length_set] at hj hk
    by_cases hji : i = j
    · by_cases hki : i = k
      · omega
      · exfalso
        subst hji
        rw [set_at hi] at e1
        rw [set_off hki] at e2
        rcases hyb x e1 with h1 | h1
        · exact hki (h.ne i k x hi hk h1 e2)
        · have := ((h.row k hk).blk x e2).2
          omega
    · rw [set_off hji] at e1
      by_cases hki : i = k
      · exfalso
        subst hki
        rw [set_at hi] at e2
        rcases hyb x e2 with h1 | h1
        · exact hji (h.ne i j x hi hj h1 e1)
        · have := ((h.row j hj).blk x e1).2
          omega
      · rw [set_off hki] at e2
        exact h.ne j k x hj hk e1 e2
  · rw [List.length_set] at hj
    by_cases hji : i = j
    · subst hji
      rw [set_at hi] at e1
      intro e
      have : b = k := by simpa [Value.ownBlock] using e
      subst this
      exact hyne e1
    · rw [set_off hji] at e1
      exact h.nb j k hj e1
/-- a matrix whose blocks hold the rows and no more, as a list of rows -/
theorem MatX.rs {w : World} {b c n B : Nat} {rs : List (Nat × Nat)} {M : List (List Int)} (h : MatX w b rs c M) (hm : Mat w b rs c M) (hl : rs.length = n) (hc : ∀ i, i < n → (rs.getD i (0, 0)).2 = c) (hB : ∀ i, i < rs.length → B ≤ (rs.getD i (0, 0)).1) (hbB : B ≤ b) (hn6 : n ≤ 1000000) (hc6 : c ≤ 1000000) :
    RS w B (.slice (some ⟨b, 0, none⟩) n n) (rs.map fun g => Value.slice (some ⟨g.1, 0, none⟩) c g.2) M := by
  have hg : ∀ i, i < n → (rs.map fun g => Value.slice (some ⟨g.1, 0, none⟩) c g.2).getD i nilV = .slice (some ⟨(rs.getD i (0, 0)).1, 0, none⟩) c c := fun i hi => by
    have e : (rs.map fun g => Value.slice (some ⟨g.1, 0, none⟩) c g.2).getD i nilV = .slice (some ⟨(rs.getD i (0, 0)).1, 0, none⟩) c (rs.getD i (0, 0)).2 := by
      simp [List.getD, show i < rs.length by omega]
    rw [e, hc i hi]
  have hln : (rs.map fun g => Value.slice (some ⟨g.1, 0, none⟩) c g.2).length = n := by simp [hl]
  refine ⟨?_, by rw [hln, hm.len, hl], fun i hi => ?_, fun i j k hi hj e1 e2 => ?_, fun i k hi e1 e2 => ?_⟩
  · rw [hln]
    refine ⟨by rw [hln]; omega, .inr ⟨b, n, _, rfl, hbB, h.rows, Nat.le_refl _, by unfold maxLen; omega, by simp [hl], ?_⟩⟩
    rw [Nat.mul_one]
    exact List.take_of_length_le (by simp [hl])
  · rw [hln] at hi
    rw [hg i hi]
    have hr := hm.row i (by omega)
    unfold OZ
    rw [hr.2]
    refine ⟨by rw [List.length_map, hr.2]; omega, .inr ⟨_, c, _, rfl, hB i (by omega), h.row i (by omega), Nat.le_refl _, by unfold maxLen; omega, by rw [List.size_toArray, List.length_map, hr.2, Nat.mul_one], ?_⟩⟩
    rw [Nat.mul_one]
    exact List.take_of_length_le (by rw [List.length_map, hr.2]; exact Nat.le_refl _)
  · rw [hln] at hi hj
    rw [hg i hi] at e1
    rw [hg j hj] at e2
    have a1 : (rs.getD i (0, 0)).1 = k := by simpa [Value.ownBlock] using e1
    have a2 : (rs.getD j (0, 0)).1 = k := by simpa [Value.ownBlock] using e2
    exact hm.ne i j (by omega) (by omega) (a1.trans a2.symm)
  · rw [hln] at hi
    rw [hg i hi] at e1
    have a1 : (rs.getD i (0, 0)).1 = k := by simpa [Value.ownBlock] using e1
    have a2 : b = k := by simpa [Value.ownBlock] using e2
    exact hm.nb i (by omega) (a1.trans a2.symm)
/-- rows of c elements as a matrix of the call's own -/
theorem RS.matV {w : World} {B b n cap c : Nat} {rs : List Value} {M : List (List Int)} (h : RS w B (.slice (some ⟨b, 0, none⟩) n cap) rs M) (hc : 0 < c) (hr : ∀ i, i < rs.length → (M.getD i []).length = c) :
    ∃ rp, Mat w b rp c M ∧ rp.length = rs.length ∧ B ≤ b ∧ ∀ i, i < rp.length → c ≤ (rp.getD i (0, 0)).2 ∧ B ≤ (rp.getD i (0, 0)).1 := by
  by_cases h0 : 0 < rs.length
  · obtain ⟨b2, cap2, rp, e, _, h1, h2, h3, h4⟩ := h.mat h0 hc hr
    cases e
    exact ⟨rp, h1, h2, h3, h4⟩
  · have hz : rs = [] := List.eq_nil_of_length_eq_zero (by omega)
    subst hz
    obtain ⟨h1, h2⟩ := h.own
    rcases h2 with ⟨e, _⟩ | ⟨g, c2, cur, e, hbb, hg, hn, hm, hs, ht⟩
    · cases e
    · cases e
      refine ⟨[], ⟨⟨cur.toList, ?_⟩, h.len, fun i hi => absurd hi (Nat.not_lt_zero _), fun i j hi => absurd hi (Nat.not_lt_zero _), fun i hi => absurd hi (Nat.not_lt_zero _)⟩, rfl, hbb, fun i hi => absurd hi (Nat.not_lt_zero _)⟩
      unfold VBlk
      rw [hg]
      rfl
theorem OZ.drew {w : World} {B : Nat} {v : Value} {L : List Int} (h : OZ w B v L) : OZ w.drew B v L := h.far (fun _ _ => rfl)
theorem RS.drew {w : World} {B : Nat} {v : Value} {rs : List Value} {M : List (List Int)} (h : RS w B v rs M) : RS w.drew B v rs M := h.far (fun _ _ => rfl) (fun _ _ _ _ => rfl)

/-- 'append(x, y)' as one step of a region that draws its order -/
theorem step_append_zl (w0 : World) {ops : Array Oper} {o : Oper} {a : Act} {K : Act → World → Prop} {Q : Exit → Act → World → Prop} {E : Prop} (hgd : o.guard = none) (s x : Operand)
    (ho : o.op = .call { callee := .builtin .append, args := #[s, x], argTypes := #[23, 23] })
    (B : Nat) (v : Value) (L : List Int) (y : Int) (hs : a.eval s = v) (hx : a.eval x = .slice (some ⟨w0.heap.size, 0, none⟩) 1 1) (hown : OZ w0 B v L) (hB : B ≤ w0.heap.size) (hL : L.length ≤ 1000000)
    (h : ∀ v' w', OZ w' B v' (L ++ [y]) → (∀ k, k < w0.heap.size → v.ownBlock ≠ some k → w'.heap[k]? = w0.heap[k]?) → (∀ k, v'.ownBlock = some k → v.ownBlock = some k ∨ w0.heap.size ≤ k) → Below B w0 w' → K (a.put o.dst v') w') :
    if Region.wanted o (yielded ops a.tmps) = true then Oper.wp Tryz.prog o a (w0.alloc (.cells #[.int .i64 y] 3)) K Q else E := by
  obtain ⟨i0, hi, hz0, hz1, hz2⟩ := info_parts Tryz.infoInt
  refine step_append_lies _ hgd s x 23 ho B 3 i0 (.int .i64 0) 1 8 Tryz.underlying23 hi hz0 hz1 hz2 rfl (by decide) v L.length _ hs (World.ownsRow.alloc hown _) ⟨w0.heap.size, 0, none⟩ 1 1 [.int .i64 y] hx rfl (cell_one_new _ _ _) ?_ (by decide) (by unfold maxLen; omega) (by omega) (by simp; omega) (w0.heap.size + 1) (by simp) ?_
  · intro u hu; rw [List.mem_singleton] at hu; subst hu; rfl
  · intro g' cap w' r1 r2 r3 r4
    refine h _ w' ?_ ?_ ?_ ?_
    · unfold OZ
      rw [List.length_append, List.map_append]
      exact r1
    · intro k hk hne
      rw [r2.block k (by simp; omega) (fun e => hne e.symm), Below.heap_alloc _ _ _ hk]
    · intro k hk
      have e2 : g' = k := by simpa [Value.ownBlock] using hk
      subst e2
      rcases r3 with r3 | r3
      · exact Or.inl r3
      · right; omega
    · refine ((Below.refl B w0).alloc hB _).grown r2 (by simp; omega) ?_
      intro k hk
      exact (World.ownsRow.lt hown k hk).1
end Go.Proofs.YthicfkeiggcjjaaGreatDoor

namespace Go.Proofs.YthicfkeiggcjjaaGreatDoor
open Go Go.RowKit

def sumN (f : Nat → Int) : Nat → Int
  | 0 => 0
  | n + 1 => sumN f n + f n
theorem sumN_dvd {p : Int} {f g : Nat → Int} : ∀ n, (∀ j, j < n → p ∣ f j - g j) → p ∣ sumN f n - sumN g n
  | 0, _ => ⟨0, by simp [sumN]⟩
  | n + 1, h => by
    have h1 := sumN_dvd n (fun j hj => h j (by omega))
    have h2 := h n (by omega)
    have e : sumN f (n + 1) - sumN g (n + 1) = (sumN f n - sumN g n) + (f n - g n) := by simp only [sumN]; omega
    rw [e]
    exact Int.dvd_add h1 h2
theorem sumN_mul (a : Int) (f : Nat → Int) : ∀ n, sumN (fun j => a * f j) n = a * sumN f n
  | 0 => by simp [sumN]
  | n + 1 => by simp only [sumN]; rw [sumN_mul a f n, Int.mul_add]
theorem sumN_add (f g : Nat → Int) : ∀ n, sumN (fun j => f j + g j) n = sumN f n + sumN g n
  | 0 => rfl
  | n + 1 => by simp only [sumN]; rw [sumN_add f g n]; omega
theorem sumN_zero {f : Nat → Int} : ∀ n, (∀ j, j < n → f j = 0) → sumN f n = 0
  | 0, _ => rfl
  | n + 1, h => by simp only [sumN]; rw [sumN_zero n (fun j hj => h j (by omega)), h n (by omega)]; rfl
theorem sumN_one {f : Nat → Int} {a : Nat} : ∀ n, a < n → (∀ j, j < n → j ≠ a → f j = 0) → sumN f n = f a
  | 0, h, _ => by omega
  | n + 1, h, hz => by
    simp only [sumN]
    by_cases ha : a = n
    · subst ha
      rw [sumN_zero a (fun j hj => hz j (by omega) (by omega))]; omega
    · rw [sumN_one n (by omega) (fun j hj hj2 => hz j (by omega) hj2), hz n (by omega) (fun e => ha e.symm)]; omega
theorem sumN_two {f : Nat → Int} {a b : Nat} : ∀ n, a < b → b < n → (∀ j, j < n → j ≠ a → j ≠ b → f j = 0) → sumN f n = f a + f b
  | 0, _, h, _ => by omega
  | n + 1, hab, h, hz => by
    simp only [sumN]
    by_cases hb : b = n
    · subst hb
      rw [sumN_one b hab (fun j hj hj2 => hz j (by omega) hj2 (by omega))]
    · rw [sumN_two n hab (by omega) (fun j hj h1 h2 => hz j (by omega) h1 h2), hz n (by omega) (by omega) (fun e => hb e.symm)]; omega
/-- a row times a vector -/
def dotN (c : Nat) (l : List Int) (x : Nat → Int) : Int := sumN (fun j => l.getD j 0 * x j) c
/-- the vector is mapped to zero -/
def Sat (p : Int) (c : Nat) (M : List (List Int)) (x : Nat → Int) : Prop := ∀ i, i < M.length → p ∣ dotN c (M.getD i []) x
theorem emod_dvd (a p : Int) : p ∣ a % p - a := ⟨-(a / p), by have := Int.emod_add_mul_ediv a p; rw [Int.mul_neg]; omega⟩
theorem getD_range {f : Nat → Int} {k x : Nat} (h : x < k) : ((List.range k).map f).getD x 0 = f x := by simp [List.getD, h]
theorem scale_dot {p inv : Int} {c : Nat} {l : List Int} (hl : l.length = c) (x : Nat → Int) : p ∣ dotN c (scaleRow p inv l) x - inv * dotN c l x := by
  unfold dotN
  rw [← sumN_mul]
  refine sumN_dvd c fun j hj => ?_
  unfold scaleRow
  rw [getD_range (by omega)]
  have e : l.getD j 0 * inv % p * x j - inv * (l.getD j 0 * x j) = (l.getD j 0 * inv % p - l.getD j 0 * inv) * x j := by
    rw [Int.sub_mul]
    congr 1
    rw [← Int.mul_assoc, Int.mul_comm inv]
  rw [e]
  exact Int.dvd_mul_of_dvd_left (emod_dvd _ _)
theorem elim_dot {p : Int} {c col : Nat} {piv row : List Int} (hl : row.length = c) (x : Nat → Int) (h0 : ¬ row.getD col 0 = 0) : p ∣ dotN c (elimRow p col piv row) x - (dotN c row x + (p - row.getD col 0) * dotN c piv x) := by
  unfold dotN
  rw [← sumN_mul, ← sumN_add]
  refine sumN_dvd c fun j hj => ?_
  unfold elimRow
  rw [if_neg h0, getD_range (by omega)]
  have e : (row.getD j 0 + (p - row.getD col 0) * piv.getD j 0) % p * x j - (row.getD j 0 * x j + (p - row.getD col 0) * (piv.getD j 0 * x j)) = ((row.getD j 0 + (p - row.getD col 0) * piv.getD j 0) % p - (row.getD j 0 + (p - row.getD col 0) * piv.getD j 0)) * x j := by
    generalize row.getD j 0 = a
    generalize p - row.getD col 0 = m
    generalize piv.getD j 0 = b
    rw [Int.sub_mul, Int.add_mul, Int.mul_assoc]
  rw [e]
  exact Int.dvd_mul_of_dvd_left (emod_dvd _ _)
theorem swI_swI (i j k : Nat) : swI i j (swI i j k) = k := by
  unfold swI
  repeat' split
  all_goals omega
/-- one step back -/
theorem Sat.step {p : Int} {n c col : Nat} {S : Ech} {x : Nat → Int} (hpr : noDiv p.toNat 2) (hp : 2 ≤ p) (hok : EOk p n c S) (hcol : col < c) (h : Sat p c (stepE p col S).M x) : Sat p c S.M x := by
  obtain ⟨R, hR⟩ : ∃ R, findR S.M col (S.M.length - S.L.length) S.L.length = R := ⟨_, rfl⟩
  by_cases hn : R = S.M.length
  · rwa [step_none (hR.trans hn)] at h
  · rw [step_some hR hn] at h
    have hb := find_lt hok hR
    have hl := hok.len
    obtain ⟨k, hk⟩ : ∃ k, S.L.length = k := ⟨_, rfl⟩
    have hne := findR_ne S.M col (S.M.length - S.L.length) S.L.length (by rw [hR]; omega)
    rw [hR] at hne
    rw [hk] at hb h
    obtain ⟨a1, a2, a3⟩ := EOk.swap hok.len hok.row hok.res (show k < n by omega) (show R < n by omega)
    have hv : ((swapL S.M k R []).getD k []).getD col 0 = (S.M.getD R []).getD col 0 := by
      rw [swap_get [] (by omega) (by omega), swI_at]
    have hvr := hok.res.at (i := R) (j := col) (by omega) (by rw [hok.row R (by omega)]; exact hcol)
    obtain ⟨v, hve⟩ : ∃ v, (S.M.getD R []).getD col 0 = v := ⟨_, rfl⟩
    rw [hve] at hne hv hvr
    have hgetS : ∀ i, i < n → S.M.getD i [] = (swapL S.M k R []).getD (swI k R i) [] := fun i hi => by
      rw [swap_get [] (by omega) (by omega), swI_swI]
    have hswl : ∀ i, i < n → swI k R i < n := fun i hi => swI_lt (by omega) (by omega) hi
    generalize swapL S.M k R [] = M1 at *
    obtain ⟨b1, b2, b3⟩ := scale_ok (np := k) (col := col) hp a1 a2 a3 (show k < n by omega)
    have hsk : ∀ i, (scaleM p k col M1).getD i [] = if i = k then scaleRow p (invZ v p) (M1.getD k []) else M1.getD i [] := fun i => by
      rw [scale_at (by omega), hv]
    generalize scaleM p k col M1 = M2 at *
    have h2 : Sat p c M2 x := by
      have hkk : p ∣ dotN c (M2.getD k []) x := by
        have := h k (by rw [clear_len]; omega)
        rwa [clear_at (by omega), if_pos rfl] at this
      intro i hi
      by_cases hik : i = k
      · subst hik; exact hkk
      · have h3 := h i (by rw [clear_len]; exact hi)
        rw [clear_at hi, if_neg hik] at h3
        by_cases h0 : (M2.getD i []).getD col 0 = 0
        · unfold elimRow at h3
          rwa [if_pos h0] at h3
        · have h4 := elim_dot (p := p) (piv := M2.getD k []) (b2 i (by omega)) x h0
          have h5 := Int.dvd_sub h3 h4
          have h6 := Int.dvd_trans hkk (Int.dvd_mul_left (p - (M2.getD i []).getD col 0) _)
          have h7 := Int.dvd_sub h5 h6
          have e : dotN c (elimRow p col (M2.getD k []) (M2.getD i [])) x - (dotN c (elimRow p col (M2.getD k []) (M2.getD i [])) x - (dotN c (M2.getD i []) x + (p - (M2.getD i []).getD col 0) * dotN c (M2.getD k []) x)) - (p - (M2.getD i []).getD col 0) * dotN c (M2.getD k []) x = dotN c (M2.getD i []) x := by omega
          rwa [e] at h7
    have h1 : Sat p c M1 x := by
      intro i hi
      have h3 := h2 i (by omega)
      rw [hsk i] at h3
      by_cases hik : i = k
      · subst hik
        rw [if_pos rfl] at h3
        have h4 := scale_dot (p := p) (inv := invZ v p) (a2 i (by omega)) x
        have h5 := Int.dvd_sub h3 h4
        have e1 : dotN c (scaleRow p (invZ v p) (M1.getD i [])) x - (dotN c (scaleRow p (invZ v p) (M1.getD i [])) x - invZ v p * dotN c (M1.getD i []) x) = invZ v p * dotN c (M1.getD i []) x := by omega
        rw [e1] at h5
        have h6 := Int.dvd_trans h5 (Int.dvd_mul_left v _)
        have h7 := inv_mul hpr hp (show 0 < v by omega) hvr.2
        have h8 : p ∣ v * invZ v p - 1 := ⟨v * invZ v p / p, by have := Int.emod_add_mul_ediv (v * invZ v p) p; omega⟩
        have h9 := Int.dvd_trans h8 (Int.dvd_mul_right _ (dotN c (M1.getD i []) x))
        have h10 := Int.dvd_sub h6 h9
        have e2 : v * (invZ v p * dotN c (M1.getD i []) x) - (v * invZ v p - 1) * dotN c (M1.getD i []) x = dotN c (M1.getD i []) x := by
          rw [Int.sub_mul, Int.one_mul, ← Int.mul_assoc]; omega
        rwa [e2] at h10
      · rwa [if_neg hik] at h3
    intro i hi
    rw [hgetS i (by omega)]
    exact h1 _ (by rw [a1]; exact hswl i (by omega))
theorem Sat.reduce {p : Int} {n c : Nat} {x : Nat → Int} (hpr : noDiv p.toNat 2) (hp : 2 ≤ p) : ∀ (k col : Nat) (S : Ech), EOk p n c S → col + k ≤ c → Sat p c (reduceE p k col S).M x → Sat p c S.M x
  | 0, _, _, _, _, h => h
  | k + 1, col, S, hok, hc, h => Sat.step hpr hp hok (by omega) (Sat.reduce hpr hp k (col + 1) _ (hok.step hp) (by omega) h)
end Go.Proofs.YthicfkeiggcjjaaGreatDoor
