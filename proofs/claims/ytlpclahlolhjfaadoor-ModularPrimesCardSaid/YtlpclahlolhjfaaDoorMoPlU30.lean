import Derived.Test.YtlpclahlolhjfaaDoorMoPlU29
import Derived.Test.YtlpclahlolhjfaaDoorMoPlU24
import Derived.Test.YtlpclahlolhjfaaDoorMoPlU27
import Derived.WalkKit
import Derived.WalkSmall
import Derived.Lib.Hide
import Derived.Deep.RegionLaw
import Derived.Deep.Onto
namespace Go.Proofs.YtlpclahlolhjfaaDoor
theorem small_agree {p : Nat} (h2 : 2 ≤ p) (h : p < 100000) : mrB p [2, 3, 5, 7] = true ↔ noDiv p 2 := by
  have key : mrK p = !listDiv p smallPrimes := by
    rcases Nat.lt_or_ge p 10000 with h' | h'
    · exact chk_spec range0 p h2 (by omega)
    rcases Nat.lt_or_ge p 20000 with h' | h'
    · exact chk_spec range1 p (by omega) (by omega)
    rcases Nat.lt_or_ge p 30000 with h' | h'
    · exact chk_spec range2 p (by omega) (by omega)
    rcases Nat.lt_or_ge p 40000 with h' | h'
    · exact chk_spec range3 p (by omega) (by omega)
    rcases Nat.lt_or_ge p 50000 with h' | h'
    · exact chk_spec range4 p (by omega) (by omega)
    rcases Nat.lt_or_ge p 60000 with h' | h'
    · exact chk_spec range5 p (by omega) (by omega)
    rcases Nat.lt_or_ge p 70000 with h' | h'
    · exact chk_spec range6 p (by omega) (by omega)
    rcases Nat.lt_or_ge p 80000 with h' | h'
    · exact chk_spec range7 p (by omega) (by omega)
    rcases Nat.lt_or_ge p 90000 with h' | h'
    · exact chk_spec range8 p (by omega) (by omega)
    exact chk_spec range9 p (by omega) (by omega)
  rw [← mrK_eq (by omega) (by omega), key, ← small_noDiv (by omega)]
  cases listDiv p smallPrimes <;> simp
theorem top_agree {p : Nat} (h2 : 2147483587 ≤ p) (h : p ≤ 2147483647) : mrB p [2, 3, 5, 7] = true ↔ noDiv p 2 := by
  rw [← mrK_eq (by omega) (by omega), chkT_spec top_range p (by omega) (by omega), ← anyDiv_noDiv (p := p) (t := 46340) (n := 46339) rfl (by omega)]
  cases anyDiv p 46340 46339 <;> simp
/-- where the test is the trial -/
theorem mr_isP {p : Int} (h : p < 100000 ∨ 2147483587 ≤ p) : mr p = isP p := by
  refine (isP_of ?_).symm
  unfold mr
  by_cases h1 : 2 ≤ p ∧ p ≤ 2147483647
  · obtain ⟨n, rfl⟩ := Int.eq_ofNat_of_zero_le (show 0 ≤ p by omega)
    have hk : mrB n [2, 3, 5, 7] = true ↔ noDiv n 2 := by
      rcases h with h | h
      · exact small_agree (by omega) (by omega)
      · exact top_agree (by omega) (by omega)
    rw [show ((n : Int)).toNat = n from rfl, decide_eq_true h1, Bool.true_and, hk]
    exact ⟨fun h => ⟨h1.1, h1.2, h⟩, fun h => h.2.2⟩
  · rw [decide_eq_false h1, Bool.false_and]
    exact ⟨fun h => (by cases h), fun h => absurd ⟨h.1, h.2.1⟩ h1⟩
end Go.Proofs.YtlpclahlolhjfaaDoor

namespace Go.Proofs.YtlpclahlolhjfaaDoor

noncomputable def fMr (q : Nat) : Bool := mr (q : Int)
noncomputable def fIs (q : Nat) : Bool := isP (q : Int)
/-- the greatest primes up to F, at most k, as ints -/
def primesZ (f : Nat → Bool) (F k : Nat) : List Int := (primesL f F k).map fun (q : Nat) => (q : Int)
theorem fMr_is {q : Nat} (h : q < 100000 ∨ 2147483587 ≤ q) : fMr q = fIs q := mr_isP (by omega)
theorem primes_small {F k : Nat} (hF : F < 100000) : primesL fMr F k = primesL fIs F k := primesL_congr F k fun q hq => fMr_is (by omega)
theorem fMr_a : fMr (2147483628 + 1) = true := mr_run (p := 2147483629) (by omega) (by omega) (by decide +kernel)
theorem fMr_b : fMr (2147483586 + 1) = true := mr_run (p := 2147483587) (by omega) (by omega) (by decide +kernel)
theorem primes_one {j : Nat} (hj : j ≤ 1) : primesL fMr 2147483628 j = primesL fIs 2147483628 j :=
  primesL_to (q := 2147483586) fMr_b (by omega) 41 j (fun x h1 _ => fMr_is (by omega)) fun i hi => by
    obtain rfl : i = 0 := by omega
    rw [primesL_zero, primesL_zero]
theorem primes_two {F k : Nat} (h1 : 2147483637 ≤ F) (hk : k ≤ 2) : primesL fMr F k = primesL fIs F k := by
  obtain ⟨d, rfl⟩ : ∃ d, F = 2147483628 + 1 + d := ⟨F - 2147483629, by omega⟩
  exact primesL_to (q := 2147483628) fMr_a (by omega) d k (fun x h1 _ => fMr_is (by omega)) fun j hj => primes_one (by omega)
theorem primesZ_len {f : Nat → Bool} {F k : Nat} : (primesZ f F k).length ≤ k := by unfold primesZ; rw [List.length_map]; exact primesL_len _ _
/-- a round of the loop -/
theorem primesZ_yes {f : Nat → Bool} {p k : Int} (hp : 2 ≤ p) (hk : 0 < k) (h : f p.toNat = true) : primesZ f p.toNat k.toNat = p :: primesZ f (p - 1).toNat (k - 1).toNat := by
  unfold primesZ
  rw [primesL_step (by omega) (by omega), if_pos h, List.map_cons, show (p - 1).toNat = p.toNat - 1 by omega, show (k - 1).toNat = k.toNat - 1 by omega]
  congr 1
  omega
theorem primesZ_no {f : Nat → Bool} {p k : Int} (hp : 2 ≤ p) (hk : 0 < k) (h : f p.toNat = false) : primesZ f p.toNat k.toNat = primesZ f (p - 1).toNat k.toNat := by
  unfold primesZ
  rw [primesL_step (by omega) (by omega), if_neg (by rw [h]; decide), show (p - 1).toNat = p.toNat - 1 by omega]
theorem primesZ_stop {f : Nat → Bool} {p k : Int} (h : p < 2 ∨ k ≤ 0) : primesZ f p.toNat k.toNat = [] := by
  unfold primesZ
  rw [primesL_stop (by omega)]; rfl
/-- from where Primes looks, and how many it wants -/
def fromP (below : Int) : Int := min (max below 2) 2147483648 - 1
def wantP (n : Int) : Int := min n 100
theorem from_of {below : Int} (h : ¬ below ≤ 2) : min below 2147483648 - 1 = fromP below := by unfold fromP; omega
theorem from_low {below : Int} (h : below ≤ 2) : fromP below = 1 := by unfold fromP; omega
theorem from_in (below : Int) : 1 ≤ fromP below ∧ fromP below ≤ 2147483647 := by unfold fromP; omega
theorem primes_agree {below n : Int} (h1 : below ≤ 5000 ∨ 2147483637 < below ∧ n ≤ 2) : primesZ fMr (fromP below).toNat (wantP n).toNat = primesZ fIs (fromP below).toNat (wantP n).toNat := by
  have h : primesL fMr (fromP below).toNat (wantP n).toNat = primesL fIs (fromP below).toNat (wantP n).toNat := by
    by_cases hs : below ≤ 5000
    · refine primes_small ?_
      unfold fromP
      omega
    · refine primes_two ?_ ?_
      · unfold fromP
        omega
      · unfold wantP
        omega
  unfold primesZ
  rw [h]
end Go.Proofs.YtlpclahlolhjfaaDoor

namespace Go.Proofs.YtlpclahlolhjfaaDoor
open Go Go.RowKit

theorem Tryd.infoInt : (Tryd.prog.info? 3).map (fun i => (i.zero, i.size, i.bytes)) = some (some (.int .i64 0), 1, 8) := by kernel_rfl

/-- the slice reads as these ints -/
structure Ns (w : World) (ao : Option Addr) (n cap : Nat) (l : List Int) : Prop where
  len : l.length = n
  cap : n ≤ cap
  cells : 0 < n → ∃ b off, ao = some ⟨b, off, none⟩ ∧ ∀ j, j < n → w.cell? ⟨b, off + j, none⟩ = some (.int .i64 (l.getD j 0))
theorem Ns.below {w w' : World} {ao : Option Addr} {n cap : Nat} {l : List Int} (h : Ns w ao n cap l) (hb : Ext w w') : Ns w' ao n cap l :=
  ⟨h.len, h.cap, fun h0 => by
    obtain ⟨b, off, e, hc⟩ := h.cells h0
    refine ⟨b, off, e, fun j hj => ?_⟩
    have := hc j hj
    rw [hb.cell (p := ⟨b, off + j, none⟩) (lt_of_cell this)]
    exact this⟩

/-- the call owns the slice v with these indices -/
def OI (w : World) (B : Nat) (v : Value) (L : List Nat) : Prop := w.ownsRow B 3 1 v L.length (L.map fun (f : Nat) => Value.int .i64 (f : Int))
theorem OI.nil (w : World) (B : Nat) : OI w B (.slice none 0 0) [] := World.ownsRow_nil w B _ _
theorem OI.below {w w' : World} {B : Nat} {v : Value} {L : List Nat} (h : OI w B v L) (hb : Ext w w') : OI w' B v L := by
  obtain ⟨h1, h2⟩ := h
  refine ⟨h1, ?_⟩
  rcases h2 with h2 | ⟨g, cap, cur, hv, hbb, hg, r⟩
  · exact .inl h2
  · exact .inr ⟨g, cap, cur, hv, hbb, by rw [hb.block g (Array.getElem?_eq_some_iff.1 hg).1]; exact hg, r⟩
theorem OI.kept {w w' : World} {B C : Nat} {v : Value} {L : List Nat} (h : OI w B v L) (hb : Below C w w') (hlt : ∀ k, v.ownBlock = some k → k < C) : OI w' B v L := by
  obtain ⟨h1, h2⟩ := h
  refine ⟨h1, ?_⟩
  rcases h2 with h2 | ⟨g, cap, cur, hv, hbb, hg, r⟩
  · exact .inl h2
  · exact .inr ⟨g, cap, cur, hv, hbb, by rw [hb.block g (hlt g (by rw [hv]; rfl))]; exact hg, r⟩
theorem OI.only {w w' : World} {B g' : Nat} {v : Value} {L : List Nat} (h : OI w B v L) (ho : w.grownBy w' (some g')) (hne : v.ownBlock ≠ some g') : OI w' B v L := World.ownsRow.kept h ho (.inr hne)
/-- written out -/
theorem OI.form {w : World} {B : Nat} {v : Value} {L : List Nat} (h : OI w B v L) (h0 : L ≠ []) : ∃ g cap, v = .slice (some ⟨g, 0, none⟩) L.length cap ∧ B ≤ g ∧ g < w.heap.size ∧ L.length ≤ cap ∧ (∀ j, j < L.length → w.cell? ⟨g, j, none⟩ = some (.int .i64 ((L.getD j 0 : Nat) : Int))) := by
  obtain ⟨h1, h2⟩ := h
  rcases h2 with ⟨rfl, hl⟩ | ⟨g, cap, cur, rfl, hb, hg, hn, hm, hs, ht⟩
  · exact absurd (List.eq_nil_of_length_eq_zero hl) h0
  · refine ⟨g, cap, rfl, hb, (Array.getElem?_eq_some_iff.1 hg).1, hn, fun j hj => ?_⟩
    rw [cell_of_row w g j _ _ _ hg]
    have : (cur.toList.take (L.length * 1))[j]? = (L.map fun (f : Nat) => Value.int .i64 (f : Int))[j]? := by rw [ht]
    rw [List.getElem?_take, if_pos (by omega)] at this
    simp only [Array.getElem?_toList] at this
    rw [this]
    simp [List.getD, hj]

theorem wpList_append_int (w0 : World) {ops : Array Oper} {rest : List Oper} {o : Oper} {a : Act} {Q : Exit → Act → World → Prop} (hgd : o.guard = none) (s x : Operand)
    (ho : o.op = .call { callee := .builtin .append, args := #[s, x], argTypes := #[25, 25] })
    (B : Nat) (v : Value) (L : List Nat) (y : Nat) (hs : a.eval s = v) (hx : a.eval x = .slice (some ⟨w0.heap.size, 0, none⟩) 1 1) (hown : OI w0 B v L) (hB : B ≤ w0.heap.size) (hL : L.length ≤ 1000000)
    (h : ∀ v' w', OI w' B v' (L ++ [y]) → Below B w0 w' → wpList Tryd.prog ops Q rest (a.put o.dst v') w') :
    wpList Tryd.prog ops Q (o :: rest) a (w0.alloc (.cells #[.int .i64 (y : Int)] 3)) := by
  obtain ⟨i0, hi, hz0, hz1, hz2⟩ := info_parts Tryd.infoInt
  refine wpList_append_own _ hgd s x 25 ho B 3 i0 (.int .i64 0) 1 8 Tryd.underlying25 hi hz0 hz1 hz2 rfl (by decide) v L.length _ hs (World.ownsRow.alloc hown _) ⟨w0.heap.size, 0, none⟩ 1 1 [.int .i64 (y : Int)] hx rfl ?_ ?_ (by unfold maxLen; omega) (by omega) (by simp; omega) ?_
  · intro j u hj
    have hn : (w0.alloc (.cells #[.int .i64 (y : Int)] 3)).heap[w0.heap.size]? = some (.cells #[.int .i64 (y : Int)] 3 (0, 0)) := heap_alloc_new w0 _
    rcases j with _ | j
    · rw [Addr.add_lit, Nat.zero_add, cell_of_row _ w0.heap.size 0 _ _ _ hn]; exact hj
    · simp at hj
  · intro u hu; rw [List.mem_singleton] at hu; subst hu; rfl
  · intro v' w' r1 r2 _
    refine h v' w' ?_ ?_
    · unfold OI
      rw [List.length_append, List.map_append]
      exact r1
    · refine ((Below.refl B w0).alloc hB _).grown r2 (by simp; omega) ?_
      intro k hk
      exact (World.ownsRow.lt hown k hk).1

end Go.Proofs.YtlpclahlolhjfaaDoor

namespace Go.Proofs.YtlpclahlolhjfaaDoor
open Go Go.RowKit

/-- the call owns the slice v with these ints -/
def OZ (w : World) (B : Nat) (v : Value) (L : List Int) : Prop := w.ownsRow B 3 1 v L.length (L.map fun (f : Int) => Value.int .i64 f)
theorem OZ.nil (w : World) (B : Nat) : OZ w B (.slice none 0 0) [] := World.ownsRow_nil w B _ _
theorem OZ.below {w w' : World} {B : Nat} {v : Value} {L : List Int} (h : OZ w B v L) (hb : Ext w w') : OZ w' B v L := by
  obtain ⟨h1, h2⟩ := h
  refine ⟨h1, ?_⟩
  rcases h2 with h2 | ⟨g, cap, cur, hv, hbb, hg, r⟩
  · exact .inl h2
  · exact .inr ⟨g, cap, cur, hv, hbb, by rw [hb.block g (Array.getElem?_eq_some_iff.1 hg).1]; exact hg, r⟩
/-- written out -/
theorem OZ.form {w : World} {B : Nat} {v : Value} {L : List Int} (h : OZ w B v L) (h0 : L ≠ []) : ∃ g cap, v = .slice (some ⟨g, 0, none⟩) L.length cap ∧ B ≤ g ∧ g < w.heap.size ∧ L.length ≤ cap ∧ (∀ j, j < L.length → w.cell? ⟨g, j, none⟩ = some (.int .i64 (L.getD j 0))) := by
  obtain ⟨h1, h2⟩ := h
  rcases h2 with ⟨rfl, hl⟩ | ⟨g, cap, cur, rfl, hb, hg, hn, hm, hs, ht⟩
  · exact absurd (List.eq_nil_of_length_eq_zero hl) h0
  · refine ⟨g, cap, rfl, hb, (Array.getElem?_eq_some_iff.1 hg).1, hn, fun j hj => ?_⟩
    rw [cell_of_row w g j _ _ _ hg]
    have : (cur.toList.take (L.length * 1))[j]? = (L.map fun (f : Int) => Value.int .i64 f)[j]? := by rw [ht]
    rw [List.getElem?_take, if_pos (by omega)] at this
    simp only [Array.getElem?_toList] at this
    rw [this]
    simp [List.getD, hj]

theorem wpList_append_z (w0 : World) {ops : Array Oper} {rest : List Oper} {o : Oper} {a : Act} {Q : Exit → Act → World → Prop} (hgd : o.guard = none) (s x : Operand)
    (ho : o.op = .call { callee := .builtin .append, args := #[s, x], argTypes := #[25, 25] })
    (B : Nat) (v : Value) (L : List Int) (y : Int) (hs : a.eval s = v) (hx : a.eval x = .slice (some ⟨w0.heap.size, 0, none⟩) 1 1) (hown : OZ w0 B v L) (hB : B ≤ w0.heap.size) (hL : L.length ≤ 1000000)
    (h : ∀ v' w', OZ w' B v' (L ++ [y]) → Below B w0 w' → wpList Tryd.prog ops Q rest (a.put o.dst v') w') :
    wpList Tryd.prog ops Q (o :: rest) a (w0.alloc (.cells #[.int .i64 y] 3)) := by
  obtain ⟨i0, hi, hz0, hz1, hz2⟩ := info_parts Tryd.infoInt
  refine wpList_append_own _ hgd s x 25 ho B 3 i0 (.int .i64 0) 1 8 Tryd.underlying25 hi hz0 hz1 hz2 rfl (by decide) v L.length _ hs (World.ownsRow.alloc hown _) ⟨w0.heap.size, 0, none⟩ 1 1 [.int .i64 y] hx rfl ?_ ?_ (by unfold maxLen; omega) (by omega) (by simp; omega) ?_
  · intro j u hj
    have hn : (w0.alloc (.cells #[.int .i64 y] 3)).heap[w0.heap.size]? = some (.cells #[.int .i64 y] 3 (0, 0)) := heap_alloc_new w0 _
    rcases j with _ | j
    · rw [Addr.add_lit, Nat.zero_add, cell_of_row _ w0.heap.size 0 _ _ _ hn]; exact hj
    · simp at hj
  · intro u hu; rw [List.mem_singleton] at hu; subst hu; rfl
  · intro v' w' r1 r2 _
    refine h v' w' ?_ ?_
    · unfold OZ
      rw [List.length_append, List.map_append]
      exact r1
    · refine ((Below.refl B w0).alloc hB _).grown r2 (by simp; omega) ?_
      intro k hk
      exact (World.ownsRow.lt hown k hk).1

theorem OZ.ns {w : World} {B : Nat} {v : Value} {L : List Int} (h : OZ w B v L) (h0 : L ≠ []) : ∃ ao cap, v = .slice ao L.length cap ∧ Ns w ao L.length cap L := by
  obtain ⟨g, cap, rfl, _, _, hc, hcell⟩ := h.form h0
  exact ⟨_, cap, rfl, rfl, hc, fun _ => ⟨g, 0, rfl, fun j hj => by rw [Nat.zero_add]; exact hcell j hj⟩⟩
end Go.Proofs.YtlpclahlolhjfaaDoor
