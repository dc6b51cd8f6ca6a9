import Derived.Test.YtapcecjbmcoliaaGrPlU34
import Derived.Test.YtapcecjbmcoliaaGrPlU30
namespace Go.Proofs.Ytapcecjbmcoliaa

def InLev (n : Nat) (a : Nat → Nat → Bool) (r x : Nat) : Prop := ∃ k ∈ lev0 n a r, x ∈ k
theorem inLev_root (n r : Nat) (a : Nat → Nat → Bool) : InLev n a r r := by
  obtain ⟨l, h⟩ := lev0_cons (n := n) (r := r) a
  exact ⟨[r], by rw [h]; exact List.mem_cons_self, List.mem_singleton.2 rfl⟩
theorem inLev_closed {n r x y : Nat} {a : Nat → Nat → Bool} (hb : ∀ v w, a v w = true → w < n) (hr : r < n) (h : InLev n a r x) (ha : a x y = true) : InLev n a r y := by
  obtain ⟨k, hk, hx⟩ := h
  have hok := start_ok hr (seen := List.replicate n false) (by simp)
  have hyn := hb _ _ ha
  have h1 := unseen_le ((List.replicate n false).set r true)
  have h2 := seenL_closed hok (f := n + 1) (by simp at h1; omega) hk hx hyn ha
  rw [seenL_get (by simpa using hyn), Bool.or_eq_true] at h2
  rcases h2 with h2 | h2
  · by_cases hry : r = y
    · subst hry
      exact inLev_root n r a
    · rw [set_off hry] at h2
      have e : (List.replicate n false).getD y false = false := by simp [List.getD, hyn]
      rw [e] at h2
      cases h2
  · obtain ⟨j, hj, hc⟩ := List.any_eq_true.1 h2
    exact ⟨j, hj, by simpa using hc⟩
theorem inLev_trans {n r s x : Nat} {a : Nat → Nat → Bool} (hb : ∀ v w, a v w = true → w < n) (hr : r < n) (h : InLev n a r s) (k : InLev n a s x) : InLev n a r x := by
  obtain ⟨l, hl, hx⟩ := k
  exact levs_in (P := InLev n a r) (fun v w h1 h2 => inLev_closed hb hr h1 h2) _ _ _ (fun v hv => by rw [List.mem_singleton] at hv; rw [hv]; exact h) l hl x hx
theorem perTo_in {n r p : Nat} {a : Nat → Nat → Bool} (hb : ∀ v w, a v w = true → w < n) (h : PerTo n a r p) : r < n → InLev n a r p := by
  induction h with
  | stop _ => exact fun _ => inLev_root n _ a
  | step _ _ ih => exact fun hr => inLev_trans hb hr ⟨_, lastL_mem n _ a, nextV_in hr⟩ (ih (nextV_lt hr))
end Go.Proofs.Ytapcecjbmcoliaa
