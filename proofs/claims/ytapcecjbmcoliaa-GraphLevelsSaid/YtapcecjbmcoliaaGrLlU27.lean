import Derived.Test.YtapcecjbmcoliaaGrLlU11
import Derived.Test.YtapcecjbmcoliaaGrLlU26
namespace Go.Proofs.Ytapcecjbmcoliaa

def castZ (l : List Nat) : List Int := l.map fun (x : Nat) => (x : Int)
theorem castZ_len (l : List Nat) : (castZ l).length = l.length := by simp [castZ]
theorem castZ_snoc (l : List Nat) (x : Nat) : castZ (l ++ [x]) = castZ l ++ [(x : Int)] := by simp [castZ]
theorem castZ_get {l : List Nat} {k : Nat} (h : k < l.length) : (castZ l).getD k 0 = ((l.getD k 0 : Nat) : Int) := by simp [castZ, List.getD, h]
def rowN (n : Nat) (a : Nat → Nat → Bool) (v : Nat) : List Nat := (List.range n).filter (a v)
theorem rowZ_cast (a : Nat → Nat → Bool) (v n : Nat) : rowZ a v n = castZ (rowN n a v) := rfl
theorem mem_rowN {n : Nat} {a : Nat → Nat → Bool} {v x : Nat} : x ∈ rowN n a v ↔ x < n ∧ a v x = true := by unfold rowN; rw [List.mem_filter, List.mem_range]
/-- the new ones of a list, each once -/
def newL (S : List Bool) (xs : List Nat) : List Nat := xs.foldl (fun F x => if S.getD x false || F.contains x then F else F ++ [x]) []
theorem newL_nil (S : List Bool) : newL S [] = [] := rfl
theorem newL_snoc (S : List Bool) (xs : List Nat) (x : Nat) : newL S (xs ++ [x]) = if S.getD x false || (newL S xs).contains x then newL S xs else newL S xs ++ [x] := by
  unfold newL
  rw [List.foldl_append]
  rfl
theorem list_snoc_ind {P : List Nat → Prop} (h0 : P []) (h1 : ∀ l x, P l → P (l ++ [x])) (l : List Nat) : P l := by
  have key : ∀ k : List Nat, P k.reverse := by
    intro k
    induction k with
    | nil => exact h0
    | cons x k ih => rw [List.reverse_cons]; exact h1 _ _ ih
  have := key l.reverse
  rwa [List.reverse_reverse] at this
theorem newL_spec (S : List Bool) (xs : List Nat) : (newL S xs).Nodup ∧ ∀ x, x ∈ newL S xs ↔ x ∈ xs ∧ S.getD x false = false := by
  induction xs using list_snoc_ind with
  | h0 => exact ⟨List.nodup_nil, fun x => by simp [newL]⟩
  | h1 xs y ih =>
    obtain ⟨ih1, ih2⟩ := ih
    rw [newL_snoc]
    by_cases h : (S.getD y false || (newL S xs).contains y) = true
    · rw [if_pos h]
      refine ⟨ih1, fun x => ?_⟩
      rw [ih2 x, List.mem_append, List.mem_singleton]
      constructor
      · rintro ⟨h1, h2⟩
        exact ⟨Or.inl h1, h2⟩
      · rintro ⟨h1 | rfl, h2⟩
        · exact ⟨h1, h2⟩
        · rw [h2, Bool.false_or, List.contains_iff_mem] at h
          exact ⟨((ih2 x).1 h).1, h2⟩
    · rw [if_neg h]
      rw [Bool.or_eq_true, not_or, List.contains_iff_mem, Bool.not_eq_true] at h
      refine ⟨?_, fun x => ?_⟩
      · rw [List.nodup_append]
        refine ⟨ih1, by simp, ?_⟩
        intro u hu v hv
        rw [List.mem_singleton] at hv
        subst hv
        exact fun e => h.2 (e ▸ hu)
      · rw [List.mem_append, List.mem_append, ih2 x, List.mem_singleton]
        constructor
        · rintro (⟨h1, h2⟩ | rfl)
          · exact ⟨Or.inl h1, h2⟩
          · exact ⟨Or.inr rfl, h.1⟩
        · rintro ⟨h1 | rfl, h2⟩
          · exact Or.inl ⟨h1, h2⟩
          · exact Or.inr rfl
theorem newL_lt {S : List Bool} {xs : List Nat} {n : Nat} (h : ∀ x ∈ xs, x < n) : ∀ x ∈ newL S xs, x < n := fun x hx => h x (((newL_spec S xs).2 x).1 hx).1
theorem up_len {n : Nat} : ∀ (l : List Nat) (lo : Nat), l.Pairwise (· < ·) → (∀ x ∈ l, lo ≤ x ∧ x < n) → l.length ≤ n - lo
  | [], _, _, _ => by simp
  | x :: l, lo, hp, h => by
    obtain ⟨h1, h2⟩ := List.pairwise_cons.1 hp
    have h3 := h x List.mem_cons_self
    have := up_len l (x + 1) h2 fun y hy => ⟨h1 y hy, (h y (List.mem_cons_of_mem _ hy)).2⟩
    rw [List.length_cons]
    omega
theorem nodup_le {l : List Nat} {n : Nat} (hn : l.Nodup) (h : ∀ x ∈ l, x < n) : l.length ≤ n := by
  have hp := List.mergeSort_perm l fun x y => decide (x ≤ y)
  have hs : (l.mergeSort fun x y => decide (x ≤ y)).Pairwise (· ≤ ·) := (List.pairwise_mergeSort (le := fun x y : Nat => decide (x ≤ y)) (fun a b c h1 h2 => by simp at *; omega) (fun a b => by simp; omega) l).imp fun h => by simpa using h
  have hn2 : (l.mergeSort fun x y => decide (x ≤ y)).Nodup := hp.nodup_iff.2 hn
  have hu := (hs.and hn2).imp (fun h => Nat.lt_of_le_of_ne h.1 h.2)
  have := up_len _ 0 hu fun x hx => ⟨Nat.zero_le _, h x (hp.mem_iff.1 hx)⟩
  rw [hp.length_eq] at this
  exact this
theorem mark_set {S : List Bool} {F : List Nat} {x : Nat} : (markL S F).set x true = markL S (F ++ [x]) := by
  refine list_same false (by rw [List.length_set, mark_len, mark_len]) fun y hy => ?_
  rw [List.length_set, mark_len] at hy
  by_cases h : x = y
  · subst h
    rw [set_at (by rw [mark_len]; exact hy), mark_get hy]
    simp
  · rw [set_off h, mark_get hy, mark_get hy]
    have e : (F ++ [x]).contains y = F.contains y := by
      rw [Bool.eq_iff_iff, List.contains_iff_mem, List.contains_iff_mem, List.mem_append, List.mem_singleton]
      constructor
      · rintro (h1 | h1)
        · exact h1
        · exact absurd h1.symm h
      · exact Or.inl
    rw [e]
theorem mark_nil (S : List Bool) : markL S [] = S := by
  refine list_same false (mark_len _ _) fun y hy => ?_
  rw [mark_len] at hy
  rw [mark_get hy]
  simp
theorem mark_same {S : List Bool} {F G : List Nat} (h : ∀ x, x ∈ F ↔ x ∈ G) : markL S F = markL S G := by
  refine list_same false (by rw [mark_len, mark_len]) fun y hy => ?_
  rw [mark_len] at hy
  rw [mark_get hy, mark_get hy]
  have e : F.contains y = G.contains y := by rw [Bool.eq_iff_iff, List.contains_iff_mem, List.contains_iff_mem, h]
  rw [e]
theorem sort_nxt {n : Nat} {a : Nat → Nat → Bool} {S : List Bool} {L : List Nat} : sortZ (castZ (newL S (L.flatMap (rowN n a)))) = castZ (nxt n a S L) ∧ markL S (newL S (L.flatMap (rowN n a))) = markL S (nxt n a S L) := by
  obtain ⟨hn, hm⟩ := newL_spec S (L.flatMap (rowN n a))
  have hF : ∀ w, w ∈ newL S (L.flatMap (rowN n a)) ↔ w < n ∧ S.getD w false = false ∧ ∃ v ∈ L, a v w = true := fun w => by
    rw [hm w, List.mem_flatMap]
    constructor
    · rintro ⟨⟨v, hv, hr⟩, hs⟩
      rw [mem_rowN] at hr
      exact ⟨hr.1, hs, v, hv, hr.2⟩
    · rintro ⟨h1, hs, v, hv, hr⟩
      exact ⟨⟨v, hv, mem_rowN.2 ⟨h1, hr⟩⟩, hs⟩
  generalize newL S (L.flatMap (rowN n a)) = F at *
  have hp : (sortZ (castZ F)).Perm (castZ F) := by unfold sortZ; exact List.mergeSort_perm _ _
  have hs : (sortZ (castZ F)).Pairwise (· ≤ ·) := by
    have := List.pairwise_mergeSort (le := fun x y : Int => decide (x ≤ y)) (fun a b c h1 h2 => by simp at *; omega) (fun a b => by simp; omega) (castZ F)
    unfold sortZ
    exact this.imp fun h => by simpa using h
  have hpos : ∀ z ∈ sortZ (castZ F), ((z.toNat : Nat) : Int) = z := fun z hz => by
    obtain ⟨x, _, rfl⟩ := List.mem_map.1 (hp.mem_iff.1 hz)
    simp
  have e1 : castZ ((sortZ (castZ F)).map Int.toNat) = sortZ (castZ F) := by
    unfold castZ
    rw [List.map_map]
    have : ∀ l : List Int, (∀ z ∈ l, ((z.toNat : Nat) : Int) = z) → l.map ((fun (x : Nat) => (x : Int)) ∘ Int.toNat) = l := by
      intro l h
      induction l with
      | nil => rfl
      | cons z l ih =>
        rw [List.map_cons, ih (fun y hy => h y (List.mem_cons_of_mem _ hy))]
        congr 1
        exact h z List.mem_cons_self
    exact this _ hpos
  have hp2 : ((sortZ (castZ F)).map Int.toNat).Perm F := by
    have h1 := hp.map Int.toNat
    have e2 : (castZ F).map Int.toNat = F := by
      unfold castZ
      rw [List.map_map]
      have : (Int.toNat ∘ fun (x : Nat) => (x : Int)) = id := by funext x; simp
      rw [this, List.map_id]
    rwa [e2] at h1
  have hs2 : ((sortZ (castZ F)).map Int.toNat).Pairwise (· ≤ ·) := List.Pairwise.map _ (fun x y h => Int.toNat_le_toNat h) hs
  have e3 := found_next hF hn hp2 hs2
  rw [e3] at e1 hp2
  exact ⟨e1.symm, mark_same fun x => hp2.mem_iff.symm⟩
theorem scan_lt (n : Nat) (a : Nat → Nat → Bool) (L : List Nat) : ∀ x ∈ L.flatMap (rowN n a), x < n := fun x hx => by
  obtain ⟨v, _, hr⟩ := List.mem_flatMap.1 hx
  exact (mem_rowN.1 hr).1
theorem flat_take {L : List Nat} {i : Nat} (h : i < L.length) (f : Nat → List Nat) : (L.take (i + 1)).flatMap f = (L.take i).flatMap f ++ f (L.getD i 0) := by
  rw [List.take_succ_eq_append_getElem h, List.flatMap_append]
  simp [List.getD, h]
end Go.Proofs.Ytapcecjbmcoliaa
