/- The dyads that a statement has at hand: each value with the dyad that it reads as; what each function adds to them. -/
import Derived.Test.YtjohpdobnedilaaGreatDoorGn
import Derived.Test.YtjohpdobnedilaaGreatDoorGl
import Derived.Test.YtjohpdobnedilaaGreatDoorGp
import Derived.Deep.RegionHeld3
namespace Go.Proofs.YtjohpdobnedilaaGreatDoor
open Go.RowKit

/-- a value, the dyad that it reads as, is it normalized -/
structure DEnt where
  v : Value
  d : Dy
  c : Bool

def DEnt.Ok (w : World) (p : DEnt) : Prop := Dg w p.v p.d ∧ (p.c = true → Dn w p.v p.d)

theorem DEnt.Ok.ext {w w' : World} {p : DEnt} (h : p.Ok w) (he : Ext w w') : p.Ok w' := ⟨h.1.ext he, fun e => (h.2 e).ext he⟩
theorem dok_dn {w : World} {v : Value} {d : Dy} (h : Dn w v d) : DEnt.Ok w ⟨v, d, true⟩ := ⟨h.dg, fun _ => h⟩
theorem dok_dg {w : World} {v : Value} {d : Dy} (h : Dg w v d) : DEnt.Ok w ⟨v, d, false⟩ := ⟨h, fun e => by cases e⟩

/-- what is at hand -/
structure DSt (W w : World) (L : List DEnt) : Prop where
  ext : Ext W w
  tab : Table w
  bag : ∀ p ∈ L, p.Ok w

theorem DSt.step {W w w' : World} {L : List DEnt} (h : DSt W w L) (he : Ext w w') : DSt W w' L := ⟨h.ext.trans he, h.tab.below he, fun p hp => (h.bag p hp).ext he⟩
theorem DSt.push {W w w' : World} {L : List DEnt} (h : DSt W w L) (he : Ext w w') {p : DEnt} (hp : p.Ok w') : DSt W w' (p :: L) :=
  ⟨h.ext.trans he, h.tab.below he, fun q hq => by
    rcases List.mem_cons.1 hq with rfl | hq
    · exact hp
    · exact (h.bag q hq).ext he⟩
theorem DSt.drew {W w : World} {L : List DEnt} (h : DSt W w L) : DSt W w.drew L := h.step (Below.refl _ _).drew
theorem DSt.alloc {W w : World} {L : List DEnt} (h : DSt W w L) (o : Obj) : DSt W (w.alloc o) L := h.step ((Below.refl _ w).alloc (Nat.le_refl _) o)
theorem DSt.self {W w : World} {L : List DEnt} (h : DSt W w L) : DSt w w L := ⟨Ext.refl w, h.tab, h.bag⟩
theorem DSt.dn {W w : World} {L : List DEnt} {v : Value} {d : Dy} (h : DSt W w L) (h1 : ⟨v, d, true⟩ ∈ L) : Dn w v d := (h.bag _ h1).2 rfl

section
variable {W w : World} {L : List DEnt} {u v : Value} {d d' : Dy} {c c' : Bool}

theorem dadd_bag (h : DSt W w L) (h1 : ⟨u, d, c⟩ ∈ L) (h2 : ⟨v, d', c'⟩ ∈ L) :
    Calls Tryz.prog 58 #[u, v] w fun e w' => ∃ r, e = .returned r ∧ DSt W w' (⟨r, dadd d d', true⟩ :: L) :=
  (dadd_any u v d d' w (h.bag _ h1).1 (h.bag _ h2).1 h.tab).mono fun _ _ ⟨r, he, hr, hw⟩ => ⟨r, he, h.push hw (dok_dn hr)⟩

theorem dsub_bag (h : DSt W w L) (h1 : ⟨u, d, c⟩ ∈ L) (h2 : ⟨v, d', c'⟩ ∈ L) :
    Calls Tryz.prog 134 #[u, v] w fun e w' => ∃ r, e = .returned r ∧ DSt W w' (⟨r, dsub d d', true⟩ :: L) :=
  (dsub_any u v d d' w (h.bag _ h1).1 (h.bag _ h2).1 h.tab).mono fun _ _ ⟨r, he, hr, hw⟩ => ⟨r, he, h.push hw (dok_dn hr)⟩

theorem dmul_bag (h : DSt W w L) (h1 : ⟨u, d, c⟩ ∈ L) (h2 : ⟨v, d', c'⟩ ∈ L) (hs : blen (dm d).natAbs ≤ 3100 ∨ blen (dm d').natAbs ≤ 3100) :
    Calls Tryz.prog 64 #[u, v] w fun e w' => ∃ r, e = .returned r ∧ DSt W w' (⟨r, dmul d d', true⟩ :: L) :=
  (dmul_any u v d d' w (h.bag _ h1).1 (h.bag _ h2).1 h.tab hs).mono fun _ _ ⟨r, he, hr, hw⟩ => ⟨r, he, h.push hw (dok_dn hr)⟩

theorem dnorm_bag (h : DSt W w L) (h1 : ⟨u, d, c⟩ ∈ L) :
    Calls Tryz.prog 152 #[u] w fun e w' => ∃ r, e = .returned r ∧ DSt W w' (⟨r, d, true⟩ :: L) :=
  (dnorm_any u d w (h.bag _ h1).1 h.tab).mono fun _ _ ⟨r, he, hr, hw⟩ => ⟨r, he, h.push hw (dok_dn hr)⟩

theorem dquo_bag (h : DSt W w L) (h1 : ⟨u, d, c⟩ ∈ L) (h2 : ⟨v, d', c'⟩ ∈ L) (p mode : Int) :
    Calls Tryz.prog 40 #[u, v, .int .i64 p, .int .i64 mode] w fun e w' => ∃ r, e = .returned r ∧ DSt W w' (⟨r, dquo d d' p mode, true⟩ :: L) :=
  (dquo_any u v d d' p mode w (h.bag _ h1).1 (h.bag _ h2).1 h.tab).mono fun _ _ ⟨r, he, hr, hw⟩ => ⟨r, he, h.push hw (dok_dn hr)⟩

theorem dkit_bag (h : DSt W w L) (h1 : ⟨u, d, true⟩ ∈ L) (h2 : ⟨v, d', true⟩ ∈ L) (hd : d = d') :
    Calls Tryz.prog 24 #[u, v] w fun e w' => e = .returned (.bool true) ∧ DSt W w' L := by
  subst hd
  exact (kitDyad_same u v d w (h.dn h1) (h.dn h2)).mono fun _ _ ⟨he, hw⟩ => ⟨he, h.step hw⟩

theorem dcmp_bag (h : DSt W w L) (h1 : ⟨u, d, c⟩ ∈ L) (h2 : ⟨v, d', c'⟩ ∈ L) (s : Int) (hd : d ≠ none) (hd' : d' ≠ none) (hs : sgn3 (sc d) (sc d') = s) :
    Calls Tryz.prog 95 #[u, v] w fun e w' => e = .returned (.tuple #[.int .i64 s, .bool true]) ∧ DSt W w' L :=
  (dcmp_any u v d d' w (h.bag _ h1).1 (h.bag _ h2).1 h.tab).mono fun e w' ⟨he, hw⟩ => by
    rcases he with ⟨h0, _⟩ | ⟨_, _, he⟩
    · rcases h0 with h0 | h0
      · exact absurd h0 hd
      · exact absurd h0 hd'
    · exact ⟨by rw [he, hs], h.step hw⟩

theorem dfromInt_bag (h : DSt W w L) (f : Int) (hf0 : -9223372036854775808 ≤ f) (hf1 : f ≤ 9223372036854775807) :
    Calls Tryz.prog 85 #[.int .i64 f] w fun e w' => ∃ r, e = .returned r ∧ DSt W w' (⟨r, dmk f 0, true⟩ :: L) :=
  (dfromInt_any f w hf0 hf1 h.tab).mono fun _ _ ⟨r, he, hr, hw⟩ => ⟨r, he, h.push hw (dok_dn hr)⟩

theorem dawake_bag (h : DSt W w L) : Calls Tryz.prog 37 #[] w fun e w' => e = .returned (.bool true) ∧ DSt W w' L :=
  (dawake_any w h.tab).mono fun _ _ ⟨he, hw⟩ => ⟨he, h.step hw⟩

end
end Go.Proofs.YtjohpdobnedilaaGreatDoor

/- What the helpers same and slim of the laws of dyads do. -/
namespace Go.Proofs.YtjohpdobnedilaaGreatDoor
open Go.RowKit

set_option maxRecDepth 100000 in
set_option maxHeartbeats 1000000 in
theorem limbs_any (ao bo : Option Addr) (n m cap cbp : Nat) (zs ys : List Int) (w : World) (ha : Sl w ao n cap zs) (hb : Sl w bo m cbp ys) :
    Calls Tryz.prog 124 #[.slice ao n cap, .slice bo m cbp] w fun e w' => e = .returned (.bool (decide (zs = ys))) ∧ Ext w w' := by
  by_cases hnm : n = m
  · subst hnm
    by_cases hzy : zs = ys
    · subst hzy
      exact (limbs_same ao bo n cap cbp zs w ha hb).mono fun e w' ⟨he, q, hq⟩ => ⟨by rw [he]; simp, by rw [hq]; exact below_drewN (Below.refl _ _) q⟩
    · have hd : decide (zs = ys) = false := by simp [hzy]
      have HD := Lib.hid hd; clear hd
      have hn := ha.big
      have h0 : ((n : Int) != n) = false := by simp
      have hex : ¬ ∀ k, k < n → zs.getD k 0 = ys.getD k 0 := by
        intro h
        apply hzy
        apply List.ext_getElem (by rw [ha.len, hb.len])
        intro i h1 h2
        rw [← getD_at h1, ← getD_at h2]
        exact h i (by rw [← ha.len]; exact h1)
      have HX := Lib.hid hex; clear hex hzy
      go_enter Tryz.func124, Tryz.ntmps124
      go_wp2
      go_loopw [5] (fun i wr => ∃ k q : Nat, k ≤ n ∧ i = .int .i64 k ∧ wr = w.drewN q ∧ ∀ j, j < k → zs.getD j 0 = ys.getD j 0) (fun i _ => n - (intOf i).toNat)
      case atStart => exact ⟨0, 0, Nat.zero_le _, rfl, rfl, fun j hj => absurd hj (Nat.not_lt_zero _)⟩
      case round =>
        obtain ⟨k, q, hk, rfl, hw, heq⟩ := hrel
        have HEQ := Lib.hid heq; clear heq
        by_cases hlt : k < n
        · obtain ⟨b, off, rfl, hc⟩ := ha.cells (by rw [ha.len]; omega)
          obtain ⟨b', off', rfl, hc'⟩ := hb.cells (by rw [hb.len]; omega)
          subst hw
          have c1 := hc k (by rw [ha.len]; omega)
          have c2 := hc' k (by rw [hb.len]; omega)
          clear hc hc'
          obtain ⟨x, hx⟩ : ∃ x, zs.getD k 0 = x := ⟨_, rfl⟩
          obtain ⟨y, hy⟩ : ∃ y, ys.getD k 0 = y := ⟨_, rfl⟩
          rw [hx] at c1
          rw [hy] at c2
          have HXX := Lib.hid hx
          have HYY := Lib.hid hy
          clear hx hy
          by_cases hxy : x = y
          · have hxx : (x != y) = false := by simp [hxy]
            have HXY := Lib.hid hxy; clear hxy
            go_wp2
            go_quiet (fail)
            go_wp2
            go_roundw
            case rel =>
              refine ⟨k + 1, q + nq, by omega, by go_num, by simp [World.drewN], fun j hj => ?_⟩
              rcases Nat.lt_or_ge j k with h | h
              · exact HEQ.out j h
              · obtain rfl : j = k := by omega
                rw [HXX.out, HYY.out, HXY.out]
            case measure => simp [intOf]; omega
          · have hxx : (x != y) = true := by simpa using hxy
            clear hxy
            go_wp2
            go_quiet (fail)
            go_wp2
            go_ret
            exact ⟨by rw [HD.out]; rfl, below_drewN (below_drewN (Below.refl _ _) q) _⟩
        · exfalso
          exact HX.out fun j hj => HEQ.out j (by omega)
  · have hd : decide (zs = ys) = false := by
      simp only [decide_eq_false_iff_not]
      rintro rfl
      exact hnm (ha.len.symm.trans hb.len)
    have HD := Lib.hid hd; clear hd
    have hne : ((n : Int) != (m : Int)) = true := by simp; omega
    clear hnm
    go_enter Tryz.func124, Tryz.ntmps124
    go_wp2
    go_ret
    exact ⟨by rw [HD.out]; rfl, Ext.refl _⟩

theorem limbs_eq_iff {x y : Int} (h : decide (x < 0) = decide (y < 0)) : limbs x.natAbs = limbs y.natAbs ↔ x = y := by
  constructor
  · intro h1
    have h2 := limbs_inj h1
    rw [decide_eq_decide] at h
    omega
  · rintro rfl; rfl

set_option maxRecDepth 100000 in
set_option maxHeartbeats 1000000 in
theorem big_any (nb mb : Bool) (ao : Option Addr) (n ca : Nat) (bo : Option Addr) (m cb : Nat) (x y : Int) (w : World) (ha : Bn w nb ao n ca x) (hb : Bn w mb bo m cb y) :
    Calls Tryz.prog 52 #[.agg #[.bool nb, .slice ao n ca], .agg #[.bool mb, .slice bo m cb]] w fun e w' => e = .returned (.bool (decide (x = y))) ∧ Ext w w' := by
  have hsa := ha.sl
  have hsb := hb.sl
  by_cases hm : nb = mb
  · have hd : decide (x = y) = decide (limbs x.natAbs = limbs y.natAbs) := by
      rw [decide_eq_decide]
      exact (limbs_eq_iff (by rw [← ha.neg, ← hb.neg, hm])).symm
    have HD := Lib.hid hd; clear hd
    subst hm
    go_enter Tryz.func52, Tryz.ntmps52
    go_wp2_with fail
    obtain ⟨W, hW, hB⟩ : ∃ W, W = (w.alloc (.cells #[.bool nb, .slice ao n ca] 37)).alloc (.cells #[.bool nb, .slice bo m cb] 37) ∧ Below w.heap.size w W :=
      ⟨_, rfl, ((Below.refl _ w).alloc (Nat.le_refl _) _).alloc (by simp) _⟩
    rw [← hW]
    clear hW
    refine (limbs_any _ _ _ _ _ _ _ _ W (hsa.below hB) (hsb.below hB)).mono ?_
    rintro e w1 ⟨rfl, hw1⟩
    have hB' := Lib.hid hB; clear hB
    generalize decide (limbs x.natAbs = limbs y.natAbs) = r at *
    go_wp2
    go_ret
    exact ⟨by rw [HD.out]; rfl, Ext.trans hB'.out hw1⟩
  · have hd : decide (x = y) = false := by
      simp only [decide_eq_false_iff_not]
      rintro rfl
      exact hm (ha.neg.trans hb.neg.symm)
    have HD := Lib.hid hd; clear hd
    have hne : (nb == mb) = false := by simpa using hm
    clear hm
    go_enter Tryz.func52, Tryz.ntmps52
    go_wp2
    go_ret
    exact ⟨by rw [HD.out]; rfl, ((Below.refl _ w).alloc (Nat.le_refl _) _).alloc (by simp) _⟩

theorem dy_eq_iff {d d' : Dy} (h : Nd d) (h' : Nd d') : d = d' ↔ d.isNone = d'.isNone ∧ dx d = dx d' ∧ dm d = dm d' := by
  constructor
  · rintro rfl; exact ⟨rfl, rfl, rfl⟩
  · rintro ⟨h1, h2, h3⟩
    cases d with
    | none => cases d' with
      | none => rfl
      | some q => simp at h1
    | some p => cases d' with
      | none => simp at h1
      | some q =>
        obtain ⟨a, b⟩ := p
        obtain ⟨c, e⟩ := q
        simp [dx, dm] at h2 h3
        rw [h2, h3]

set_option maxRecDepth 100000 in
set_option maxHeartbeats 2000000 in
theorem kitDyad_any (u v : Value) (d d' : Dy) (w : World) (hu : Dn w u d) (hv : Dn w v d') :
    Calls Tryz.prog 24 #[u, v] w fun e w' => e = .returned (.bool (decide (d = d'))) ∧ Ext w w' := by
  have hiff := dy_eq_iff hu.1 hv.1
  obtain ⟨ub, un, uo, uk, uc, uf, rfl⟩ := hu.parts
  obtain ⟨vb, vn, vo, vk, vc, vf, rfl⟩ := hv.parts
  obtain ⟨a1, a2, hm⟩ := hu.get
  obtain ⟨b1, b2, hm'⟩ := hv.get
  clear hu hv
  rw [← a1, ← b1, ← a2, ← b2] at hiff
  have HIFF := Lib.hid hiff
  clear hiff a1 a2 b1 b2
  by_cases h1 : ub = vb
  · subst h1
    by_cases h2 : uf = vf
    · subst h2
      have hd : decide (d = d') = decide (dm d = dm d') := by
        rw [decide_eq_decide, HIFF.out]
        exact ⟨fun h => h.2.2, fun h => ⟨rfl, rfl, h⟩⟩
      have HD := Lib.hid hd; clear hd
      go_enter Tryz.func24, Tryz.ntmps24
      go_upto_region 1 with fail
      obtain ⟨W, hW, hB, hbx, hby, hz⟩ := boxes_two_d w ub un uo uk uc uf ub vn vo vk vc uf
      rw [← hW]
      clear hW
      have hm := hm.below hB
      have hm' := hm'.below hB
      have HB := Lib.hid (show Ext w W from hB)
      clear hB
      generalize w.heap.size = B at *
      have k0 := hbx.c0
      have k1 := hbx.c1
      have k2 := hbx.c2
      have k3 := hbx.c3
      have l0 := hby.c0
      have l1 := hby.c1
      have l2 := hby.c2
      have l3 := hby.c3
      go_wp2_with fail
      refine (big_any _ _ _ _ _ _ _ _ _ _ _ hm hm').mono ?_
      rintro e w1 ⟨rfl, hw1⟩
      generalize decide (dm d = dm d') = r at *
      go_wp2
      go_ret
      exact ⟨by rw [HD.out]; rfl, HB.out.trans hw1⟩
    · have hd : decide (d = d') = false := by
        simp only [decide_eq_false_iff_not]
        intro h; exact h2 (HIFF.out.1 h).2.1
      have HD := Lib.hid hd; clear hd
      have hne : (uf == vf) = false := by simpa using h2
      clear h2 hm hm'
      go_enter Tryz.func24, Tryz.ntmps24
      go_upto_region 1 with fail
      obtain ⟨W, hW, hB, hbx, hby, hz⟩ := boxes_two_d w ub un uo uk uc uf ub vn vo vk vc vf
      rw [← hW]
      clear hW
      have HB := Lib.hid (show Ext w W from hB)
      clear hB
      generalize w.heap.size = B at *
      have k0 := hbx.c0
      have k3 := hbx.c3
      have l0 := hby.c0
      have l3 := hby.c3
      go_wp2
      go_ret
      exact ⟨by rw [HD.out]; rfl, HB.out⟩
  · have hd : decide (d = d') = false := by
      simp only [decide_eq_false_iff_not]
      intro h; exact h1 (HIFF.out.1 h).1
    have HD := Lib.hid hd; clear hd
    have hne : (ub == vb) = false := by simpa using h1
    clear h1 hm hm'
    go_enter Tryz.func24, Tryz.ntmps24
    go_upto_region 1 with fail
    obtain ⟨W, hW, hB, hbx, hby, hz⟩ := boxes_two_d w ub un uo uk uc uf vb vn vo vk vc vf
    rw [← hW]
    clear hW
    have HB := Lib.hid (show Ext w W from hB)
    clear hB
    generalize w.heap.size = B at *
    have k0 := hbx.c0
    have l0 := hby.c0
    go_wp2
    go_ret
    exact ⟨by rw [HD.out]; rfl, HB.out⟩

section
variable {W w : World} {L : List DEnt} {u v : Value} {d d' : Dy} {c c' : Bool}
theorem dkit_bag2 (h : DSt W w L) (h1 : ⟨u, d, true⟩ ∈ L) (h2 : ⟨v, d', true⟩ ∈ L) (r : Bool) (hr : decide (d = d') = r) :
    Calls Tryz.prog 24 #[u, v] w fun e w' => e = .returned (.bool r) ∧ DSt W w' L :=
  (kitDyad_any u v d d' w (h.dn h1) (h.dn h2)).mono fun _ _ ⟨he, hw⟩ => ⟨by rw [he, hr], h.step hw⟩

end

/-- is a dyad slim -/
def slimSays (n : Nat) (f : Int) (k b : Nat) : Bool := decide (n ≤ k ∧ (-(b : Int) ≤ f ∧ f ≤ b ∨ 131072 < f ∨ f < -131072))

set_option maxRecDepth 100000 in
set_option maxHeartbeats 4000000 in
theorem kitSlim_any (bb nb : Bool) (ao : Option Addr) (n ca : Nat) (f : Int) (k b : Nat) (w : World) (hk : k ≤ 100000) (hb : b ≤ 100000) :
    Calls Tryz.prog 93 #[.agg #[.bool bb, .bool nb, .slice ao n ca, .int .i64 f], .int .i64 k, .int .i64 b] w fun e w' => e = .returned (.bool (slimSays n f k b)) ∧ Ext w w' := by
  obtain ⟨r, hr⟩ : ∃ r, slimSays n f k b = r := ⟨_, rfl⟩
  rw [hr]
  have hcases : (¬ n ≤ k ∧ r = false) ∨ (n ≤ k ∧ f < -131072 ∧ r = true) ∨ (n ≤ k ∧ -131072 ≤ f ∧ f < -(b : Int) ∧ r = false) ∨ (n ≤ k ∧ -(b : Int) ≤ f ∧ f ≤ b ∧ r = true) ∨ (n ≤ k ∧ (b : Int) < f ∧ f ≤ 131072 ∧ r = false) ∨ (n ≤ k ∧ 131072 < f ∧ r = true) := by
    rw [← hr]
    unfold slimSays
    by_cases h1 : n ≤ k
    · rcases Int.lt_or_le f (-131072) with h2 | h2
      · right; left; exact ⟨h1, h2, decide_eq_true ⟨h1, Or.inr (Or.inr h2)⟩⟩
      · rcases Int.lt_or_le f (-(b : Int)) with h3 | h3
        · right; right; left; exact ⟨h1, h2, h3, decide_eq_false (by omega)⟩
        · rcases Int.lt_or_le (b : Int) f with h4 | h4
          · rcases Int.lt_or_le 131072 f with h5 | h5
            · right; right; right; right; right; exact ⟨h1, h5, decide_eq_true ⟨h1, Or.inr (Or.inl h5)⟩⟩
            · right; right; right; right; left; exact ⟨h1, h4, h5, decide_eq_false (by omega)⟩
          · right; right; right; left; exact ⟨h1, h3, h4, decide_eq_true ⟨h1, Or.inl ⟨h3, h4⟩⟩⟩
    · left; exact ⟨h1, decide_eq_false (fun h => h1 h.1)⟩
  clear hr
  have hk1 : (k : Int) ≤ 100000 := by omega
  go_enter Tryz.func93, Tryz.ntmps93
  go_upto_region 1 with fail
  obtain ⟨W, hW, hB, hbx, hz⟩ := dbox_new w bb nb ao n ca f
  rw [← hW]
  clear hW
  have HB := Lib.hid (show Ext w W from hB)
  clear hB
  generalize w.heap.size = B at *
  have k2 := hbx.c2
  have k3 := hbx.c3
  clear hbx hz
  rcases hcases with ⟨h1, rfl⟩ | ⟨h1, h2, rfl⟩ | ⟨h1, h2, h3, rfl⟩ | ⟨h1, h2, h3, rfl⟩ | ⟨h1, h2, h3, rfl⟩ | ⟨h1, h2, rfl⟩
  all_goals
    go_wp2
    go_ret
    refine ⟨?_, HB.out⟩
    first
      | rfl
      | exact congrArg (fun r => Ending.returned (Value.bool r)) (show (decide (131072 < f) || decide (f < -131072)) = false by rw [decide_eq_false (by omega), decide_eq_false (by omega)]; rfl)
      | exact congrArg (fun r => Ending.returned (Value.bool r)) (show (decide (f ≤ (b : Int)) || decide (131072 < f) || decide (f < -131072)) = false by rw [decide_eq_false (by omega), decide_eq_false (by omega), decide_eq_false (by omega)]; rfl)

set_option maxRecDepth 100000 in
set_option maxHeartbeats 4000000 in
theorem dslim_any (bb nb : Bool) (ao : Option Addr) (n ca : Nat) (f : Int) (w : World) :
    Calls Tryz.prog 36 #[.agg #[.bool bb, .bool nb, .slice ao n ca, .int .i64 f]] w fun e w' => e = .returned (.bool (slimSays n f 20 2000)) ∧ Ext w w' := by
  go_enter Tryz.func36, Tryz.ntmps36
  go_upto_region 1 with fail
  obtain ⟨W, hW, hB, hbx, hz⟩ := dbox_new w bb nb ao n ca f
  rw [← hW]
  clear hW
  have HB := Lib.hid (show Ext w W from hB)
  clear hB
  generalize w.heap.size = B at *
  have k0 := hbx.c0
  have k1 := hbx.c1
  have k2 := hbx.c2
  have k3 := hbx.c3
  go_wp2_with fail
  refine (kitSlim_any bb nb ao n ca f 20 2000 W (by omega) (by omega)).mono ?_
  rintro e w1 ⟨rfl, hw1⟩
  go_wp2
  go_ret
  exact ⟨rfl, HB.out.trans hw1⟩
end Go.Proofs.YtjohpdobnedilaaGreatDoor

/- DyadRing returns true, from what its callees do. -/
namespace Go.Proofs.YtjohpdobnedilaaGreatDoor
open Go.RowKit

theorem boxes_three_d (w : World) (ab an : Bool) (ao : Option Addr) (ak ac : Nat) (af : Int) (bb bn : Bool) (bo : Option Addr) (bk bc : Nat) (bf : Int) (cb cn : Bool) (co : Option Addr) (ck cc : Nat) (cf : Int) :
    ∃ W, W = ((w.alloc (.cells #[.bool ab, .bool an, .slice ao ak ac, .int .i64 af] 39)).alloc (.cells #[.bool bb, .bool bn, .slice bo bk bc, .int .i64 bf] 39)).alloc (.cells #[.bool cb, .bool cn, .slice co ck cc, .int .i64 cf] 39) ∧ Ext w W ∧
      DBox W w.heap.size ab an ao ak ac af ∧ DBox W (w.heap.size + 1) bb bn bo bk bc bf ∧ DBox W (w.heap.size + 1 + 1) cb cn co ck cc cf := by
  refine ⟨_, rfl, (((Below.refl _ w).alloc (Nat.le_refl _) _).alloc (by simp) _).alloc (by simp; omega) _, ?_, ?_, ?_⟩
  · exact (DBox.new w ab an ao ak ac af).below (((Below.refl _ _).alloc (Nat.le_refl _) _).alloc (by simp) _)
  · have := (DBox.new (w.alloc (.cells #[.bool ab, .bool an, .slice ao ak ac, .int .i64 af] 39)) bb bn bo bk bc bf).below ((Below.refl _ _).alloc (Nat.le_refl _) (.cells #[.bool cb, .bool cn, .slice co ck cc, .int .i64 cf] 39))
    simpa using this
  · have := DBox.new ((w.alloc (.cells #[.bool ab, .bool an, .slice ao ak ac, .int .i64 af] 39)).alloc (.cells #[.bool bb, .bool bn, .slice bo bk bc, .int .i64 bf] 39)) cb cn co ck cc cf
    simpa using this

theorem dslim_at (bb nb : Bool) (ao : Option Addr) (n ca : Nat) (f : Int) (w : World) (r : Bool) (hr : slimSays n f 20 2000 = r) :
    Calls Tryz.prog 36 #[.agg #[.bool bb, .bool nb, .slice ao n ca, .int .i64 f]] w fun e w' => e = .returned (.bool r) ∧ Ext w w' := by
  have := dslim_any bb nb ao n ca f w
  rwa [hr] at this

/-- the number of a raw dyad -/
def draw (bb : Bool) (x f : Int) : Dy := if bb then none else dmk x f

/-- what is known of a raw dyad that may be too long -/
def RawD (w : World) (_bb _nb : Bool) (ao : Option Addr) (n ca : Nat) (f : Int) : Prop := -9223372036854775808 ≤ f ∧ f ≤ 9223372036854775807 ∧ (n ≤ 1099511627776 → ∃ zs, Sl w ao n ca zs)

theorem RawD.slim {w : World} {bb nb : Bool} {ao : Option Addr} {n ca : Nat} {f : Int} (h : RawD w bb nb ao n ca f) (hs : slimSays n f 20 2000 = true) :
    ∃ d, Dl w (.agg #[.bool bb, .bool nb, .slice ao n ca, .int .i64 f]) d ∧ (d ≠ none → Slim d) := by
  obtain ⟨h1, h2, h3⟩ := h
  unfold slimSays at hs
  simp only [decide_eq_true_eq] at hs
  obtain ⟨hn, hf⟩ := hs
  obtain ⟨zs, hz⟩ := h3 (by omega)
  have hbg : Bg w nb ao n ca (sgd nb zs) := ⟨⟨zs, hz, rfl⟩, by omega⟩
  have hbl := bg_blen hbg
  refine ⟨_, ⟨bb, nb, ao, n, ca, _, f, rfl, hbg, by omega, h1, h2, rfl⟩, ?_⟩
  cases bb with
  | true => intro h; exact absurd rfl h
  | false => intro h; exact slim_of (by omega) (by omega) h

theorem none_parts {w : World} {r : Value} (h : Dn w r none) : ∃ nb ao n ca e, r = .agg #[.bool true, .bool nb, .slice ao n ca, .int .i64 e] ∧
    ∀ w : World, (Instr.field 39 (.agg #[.bool true, .bool nb, .slice ao n ca, .int .i64 e]) 0).run Tryz.prog w = .ok (.bool true) w := by
  obtain ⟨_, nb, ao, n, ca, rfl, _⟩ := h
  exact ⟨nb, ao, n, ca, dx none, rfl, fun _ => by kernel_rfl⟩
theorem DSt.dn0 {W w : World} {L : List DEnt} {v : Value} {d : Dy} (h : DSt W w (⟨v, d, true⟩ :: L)) (hd : d = none) : Dn w v none := by
  subst hd; exact h.dn (List.Mem.head _)

end Go.Proofs.YtjohpdobnedilaaGreatDoor
