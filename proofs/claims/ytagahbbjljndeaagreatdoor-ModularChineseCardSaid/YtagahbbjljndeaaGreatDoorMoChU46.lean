import Derived.Test.YtagahbbjljndeaaGreatDoorMoChU19
import Derived.Test.YtagahbbjljndeaaGreatDoorMoChU30
import Derived.Test.YtagahbbjljndeaaGreatDoorMoChU24
namespace Go.Proofs.YtagahbbjljndeaaGreatDoor
open Go Go.RowKit

/-- the call owns the slice v with these ints -/
def OZ (w : World) (B : Nat) (v : Value) (L : List Int) : Prop := w.ownsRow B 3 1 v L.length (L.map fun (f : Int) => Value.int .i64 f)
theorem OZ.nil (w : World) (B : Nat) : OZ w B (.slice none 0 0) [] := World.ownsRow_nil w B _ _
theorem OZ.below {w w' : World} {B : Nat} {v : Value} {L : List Int} (h : OZ w B v L) (hb : Ext w w') : OZ w' B v L := by
  obtain ⟨h1, h2⟩ := h
  refine ⟨h1, ?_⟩
  rcases h2 with h2 | ⟨g, cap, cur, hv, hbb, hg, r⟩
  · exact .inl h2
  · exact .inr ⟨g, cap, cur, hv, hbb, by rw [hb.block g (Array.getElem?_eq_some_iff.1 hg).1]; exact hg, r⟩
/-- written out -/
theorem OZ.form {w : World} {B : Nat} {v : Value} {L : List Int} (h : OZ w B v L) (h0 : L ≠ []) : ∃ g cap, v = .slice (some ⟨g, 0, none⟩) L.length cap ∧ B ≤ g ∧ g < w.heap.size ∧ L.length ≤ cap ∧ (∀ j, j < L.length → w.cell? ⟨g, j, none⟩ = some (.int .i64 (L.getD j 0))) := by
  obtain ⟨h1, h2⟩ := h
  rcases h2 with ⟨rfl, hl⟩ | ⟨g, cap, cur, rfl, hb, hg, hn, hm, hs, ht⟩
  · exact absurd (List.eq_nil_of_length_eq_zero hl) h0
  · refine ⟨g, cap, rfl, hb, (Array.getElem?_eq_some_iff.1 hg).1, hn, fun j hj => ?_⟩
    rw [cell_of_row w g j _ _ _ hg]
    have : (cur.toList.take (L.length * 1))[j]? = (L.map fun (f : Int) => Value.int .i64 f)[j]? := by rw [ht]
    rw [List.getElem?_take, if_pos (by omega)] at this
    simp only [Array.getElem?_toList] at this
    rw [this]
    simp [List.getD, hj]

theorem wpList_append_z (w0 : World) {ops : Array Oper} {rest : List Oper} {o : Oper} {a : Act} {Q : Exit → Act → World → Prop} (hgd : o.guard = none) (s x : Operand)
    (ho : o.op = .call { callee := .builtin .append, args := #[s, x], argTypes := #[37, 37] })
    (B : Nat) (v : Value) (L : List Int) (y : Int) (hs : a.eval s = v) (hx : a.eval x = .slice (some ⟨w0.heap.size, 0, none⟩) 1 1) (hown : OZ w0 B v L) (hB : B ≤ w0.heap.size) (hL : L.length ≤ 1000000)
    (h : ∀ v' w', OZ w' B v' (L ++ [y]) → Below B w0 w' → wpList Tryz.prog ops Q rest (a.put o.dst v') w') :
    wpList Tryz.prog ops Q (o :: rest) a (w0.alloc (.cells #[.int .i64 y] 3)) := by
  obtain ⟨i0, hi, hz0, hz1, hz2⟩ := info_parts Tryz.infoInt
  refine wpList_append_own _ hgd s x 37 ho B 3 i0 (.int .i64 0) 1 8 Tryz.underlying37 hi hz0 hz1 hz2 rfl (by decide) v L.length _ hs (World.ownsRow.alloc hown _) ⟨w0.heap.size, 0, none⟩ 1 1 [.int .i64 y] hx rfl ?_ ?_ (by unfold maxLen; omega) (by omega) (by simp; omega) ?_
  · intro j u hj
    have hn : (w0.alloc (.cells #[.int .i64 y] 3)).heap[w0.heap.size]? = some (.cells #[.int .i64 y] 3 (0, 0)) := heap_alloc_new w0 _
    rcases j with _ | j
    · rw [Addr.add_lit, Nat.zero_add, cell_of_row _ w0.heap.size 0 _ _ _ hn]; exact hj
    · simp at hj
  · intro u hu; rw [List.mem_singleton] at hu; subst hu; rfl
  · intro v' w' r1 r2 _
    refine h v' w' ?_ ?_
    · unfold OZ
      rw [List.length_append, List.map_append]
      exact r1
    · refine ((Below.refl B w0).alloc hB _).grown r2 (by simp; omega) ?_
      intro k hk
      exact (World.ownsRow.lt hown k hk).1

theorem OZ.ns {w : World} {B : Nat} {v : Value} {L : List Int} (h : OZ w B v L) (h0 : L ≠ []) : ∃ ao cap, v = .slice ao L.length cap ∧ Ns w ao L.length cap L := by
  obtain ⟨g, cap, rfl, _, _, hc, hcell⟩ := h.form h0
  exact ⟨_, cap, rfl, rfl, hc, fun _ => ⟨g, 0, rfl, fun j hj => by rw [Nat.zero_add]; exact hcell j hj⟩⟩
end Go.Proofs.YtagahbbjljndeaaGreatDoor

namespace Go.Proofs.YtagahbbjljndeaaGreatDoor

/-- one prime more -/
theorem crt_cong {a X N r p : Int} (hX : N ∣ a - X) (hr : p ∣ a - r) (hv : p ∣ N * invZ (N % p) p - 1) : N * p ∣ a - crtStep X N r p := by
  have hs : crtStep X N r p = X + N * ((r % p - X % p) % p * invZ (N % p) p % p) := rfl
  rw [hs]
  generalize invZ (N % p) p = v at *
  obtain ⟨t, ht⟩ := hX
  have h1 : p ∣ r - X - (r % p - X % p) % p := by
    have e1 : p ∣ r - r % p := Int.dvd_self_sub_emod
    have e2 : p ∣ X - X % p := Int.dvd_self_sub_emod
    have e3 : p ∣ (r % p - X % p) - (r % p - X % p) % p := Int.dvd_self_sub_emod
    have := Int.dvd_add (Int.dvd_sub e1 e2) e3
    have e4 : r - r % p - (X - X % p) + (r % p - X % p - (r % p - X % p) % p) = r - X - (r % p - X % p) % p := by omega
    rwa [e4] at this
  generalize (r % p - X % p) % p = d at *
  have h2 : p ∣ d * v - d * v % p := Int.dvd_self_sub_emod
  generalize d * v % p = k at *
  have h3 : p ∣ t - k := by
    have a1 : p ∣ t * (N * v - 1) := Int.dvd_mul_of_dvd_right hv
    have a2 : p ∣ v * ((a - r) + (r - X - d)) := Int.dvd_mul_of_dvd_right (Int.dvd_add hr h1)
    have e : t - k = v * ((a - r) + (r - X - d)) - t * (N * v - 1) + (d * v - k) := by
      have e1 : (a - r) + (r - X - d) = N * t - d := by omega
      rw [e1, Int.mul_sub, Int.mul_sub, Int.mul_one, Int.mul_comm v d, Int.mul_comm v (N * t), Int.mul_comm N t, Int.mul_assoc]
      omega
    rw [e]
    exact Int.dvd_add (Int.dvd_sub a2 a1) h2
  obtain ⟨u, hu⟩ := h3
  refine ⟨u, ?_⟩
  have : a - (X + N * k) = N * (t - k) := by rw [Int.mul_sub, ← ht]; omega
  rw [this, hu, Int.mul_assoc]
theorem inv_run {a p : Nat} (hp : 1 < p) (hp2 : p ≤ 4294967296) : invZ (a : Int) (p : Int) = ((pwk p 32 1 a (p - 2) : Nat) : Int) := by
  unfold invZ
  rw [pwk_spec p (by omega) 32 1 a (p - 2) (by omega) hp, Nat.one_mul, show ((p : Int) - 2).toNat = p - 2 by omega]
  rfl
theorem inv_fact (N p : Nat) (hp : 1 < p) (hp2 : p ≤ 4294967296) (h : ((N : Int) * ((pwk p 32 1 (N % p) (p - 2) : Nat) : Int) - 1) % (p : Int) = 0) : (p : Int) ∣ (N : Int) * invZ ((N : Int) % (p : Int)) (p : Int) - 1 := by
  have := inv_run (a := N % p) hp hp2
  rw [Int.natCast_emod] at this
  rw [this]
  exact Int.dvd_of_emod_eq_zero h
def fiveP : List Int := [3, 101, 65537, 1000003, 2147483647]
theorem mr_run {p : Nat} (h1 : 1 < p) (h2 : p ≤ 2147483647) (h : mrK p = true) : mr (p : Int) = true := by
  unfold mr
  rw [decide_eq_true (show 2 ≤ (p : Int) ∧ (p : Int) ≤ 2147483647 by omega), Bool.true_and, show ((p : Int)).toNat = p from rfl, ← mrK_eq h1 (by omega)]
  exact h
theorem five_mr : ∀ p ∈ fiveP, mr p = true := by
  intro p hp
  simp only [fiveP, List.mem_cons, List.not_mem_nil, or_false] at hp
  rcases hp with rfl | rfl | rfl | rfl | rfl
  · exact mr_run (p := 3) (by omega) (by omega) (by decide +kernel)
  · exact mr_run (p := 101) (by omega) (by omega) (by decide +kernel)
  · exact mr_run (p := 65537) (by omega) (by omega) (by decide +kernel)
  · exact mr_run (p := 1000003) (by omega) (by omega) (by decide +kernel)
  · exact mr_run (p := 2147483647) (by omega) (by omega) (by decide +kernel)
def fiveM : Int := 19857711 * 1000003 * 2147483647
theorem five_prod : crtN fiveP = fiveM := by decide +kernel
/-- the number is found again -/
theorem five_back (a r0 r1 r2 r3 r4 : Int) (ha : a.natAbs < 18446744073709551616) (h0 : (3 : Int) ∣ a - r0) (h1 : (101 : Int) ∣ a - r1) (h2 : (65537 : Int) ∣ a - r2) (h3 : (1000003 : Int) ∣ a - r3) (h4 : (2147483647 : Int) ∣ a - r4) :
    crtC (crtFin [r0, r1, r2, r3, r4] fiveP) fiveM = a := by
  have s0 := CrtAt.start
  have s1 := s0.step (r := r0) (p := 3) (by omega) (by omega)
  have s2 := s1.step (r := r1) (p := 101) (by omega) (by omega)
  have s3 := s2.step (r := r2) (p := 65537) (by omega) (by omega)
  have s4 := s3.step (r := r3) (p := 1000003) (by omega) (by omega)
  have s5 := s4.step (r := r4) (p := 2147483647) (by omega) (by omega)
  have c1 := crt_cong (X := 0) (N := 1) (Int.one_dvd a |> fun h => by rw [Int.sub_zero]; exact h) h0 (inv_fact 1 3 (by omega) (by omega) (by decide +kernel))
  have c2 := crt_cong (N := 1 * 3) c1 h1 (inv_fact 3 101 (by omega) (by omega) (by decide +kernel))
  have c3 := crt_cong (N := 1 * 3 * 101) c2 h2 (inv_fact 303 65537 (by omega) (by omega) (by decide +kernel))
  have c4 := crt_cong (N := 1 * 3 * 101 * 65537) c3 h3 (inv_fact 19857711 1000003 (by omega) (by omega) (by decide +kernel))
  have c5 := crt_cong (N := 1 * 3 * 101 * 65537 * 1000003) c4 h4 (inv_fact 19857770573133 2147483647 (by omega) (by omega) (by decide +kernel))
  have hF : crtFin [r0, r1, r2, r3, r4] fiveP = crtStep (crtStep (crtStep (crtStep (crtStep 0 1 r0 3) (1 * 3) r1 101) (1 * 3 * 101) r2 65537) (1 * 3 * 101 * 65537) r3 1000003) (1 * 3 * 101 * 65537 * 1000003) r4 2147483647 := rfl
  obtain ⟨p0, p1, _⟩ := s5
  rw [← hF] at c5 p0 p1
  have hM : (1 * 3 * 101 * 65537 * 1000003 * 2147483647 : Int) = fiveM := by decide
  rw [hM] at c5 p1
  generalize crtFin [r0, r1, r2, r3, r4] fiveP = Y at *
  obtain ⟨q, hq⟩ := c5
  have hMn : fiveM = 42644237571680935056051 := by decide +kernel
  unfold crtC
  rw [hMn] at hq p1 ⊢
  have hq1 : q = 0 ∨ q = -1 := by
    rcases Int.lt_trichotomy q 0 with h | h | h
    · right; omega
    · left; exact h
    · exfalso; omega
  rcases hq1 with rfl | rfl <;> split <;> omega
end Go.Proofs.YtagahbbjljndeaaGreatDoor
