import Derived.Test.YtekocoklfnojmaaGreatDoorIMiddleU43
import Derived.Test.YtekocoklfnojmaaGreatDoorIMiddleU17
import Derived.Test.YtekocoklfnojmaaGreatDoorIMiddleU21
import Derived.Test.YtekocoklfnojmaaGreatDoorIMiddleU42
import Derived.Test.YtekocoklfnojmaaGreatDoorIMiddleU27
import Derived.Test.YtekocoklfnojmaaGreatDoorIMiddleU34
import Derived.Deep.RegionHeld3
import Derived.Test.YtekocoklfnojmaaGreatDoorIMiddleU25
namespace Go.Proofs.YtekocoklfnojmaaGreatDoor
theorem rz_self {b : Nat} (hb : finB b = true) (hl : b < 18446744073709551616) (mode : Int) : frank (rz (fzs b) (-1074) mode) = frank b := by
  cases hz : zeroB b with
  | true =>
    have h0 := zero_fzs hz
    unfold rz
    rw [if_pos h0]
    have := zero_rank.2 hz
    rw [this]
    decide
  | false =>
    have h0 := nz_fzs hz
    unfold rz
    rw [if_neg h0, fz_self hb hz hl]
theorem rz_up {S : Int} (k : Nat) (e mode : Int) : rz (S * 2 ^ k) (e - k) mode = rz S e mode := by
  unfold rz
  by_cases h : S = 0
  · rw [if_pos h, h, Int.zero_mul, if_pos rfl]
  · have h2 : S * 2 ^ k ≠ 0 := Int.mul_ne_zero h (Int.ne_of_gt (Int.pow_pos (by omega)))
    rw [if_neg h, if_neg h2, rnd_up h]
theorem vs_self (S : Int) : vs S (-1074) 1074 = S := by unfold vs; simp
/-- rounding downward is not above, upward not below: in units of 2^-1074 -/
theorem rz_encl (S : Int) : (finB (rz S (-1074) 1) = true → fzs (rz S (-1074) 1) ≤ S) ∧ (finB (rz S (-1074) 2) = true → S ≤ fzs (rz S (-1074) 2)) := by
  by_cases h : S = 0
  · unfold rz
    rw [if_pos h, if_pos h, h]
    decide
  · have E := rnd_enc (S := S) (e := -1074) (T := 1074) h (by omega) (by omega)
    have e1 := E.fl
    have e2 := E.fh
    rw [fs_fzs, vs_self] at e1 e2
    unfold rz
    rw [if_neg h, if_neg h]
    exact ⟨e1, e2⟩
theorem fin_top {x : Nat} (h : finB x = true) : -9218868437227405312 < frank x ∧ frank x < 9218868437227405312 := fin_rank_lt h
theorem high_sum {a e : Nat} (la : a < 18446744073709551616) (le : e < 18446744073709551616) (na : nanB a = false) (ne : nanB e = false) (ha : -9218868437227405312 < frank a) (he : -9218868437227405312 < frank e) :
    frank (faddF a e 2) = 9218868437227405312 ∨ (finB a = true ∧ finB e = true ∧ finB (faddF a e 2) = true ∧ fzs a + fzs e ≤ fzs (faddF a e 2)) := by
  have key : ∀ x, -9218868437227405312 < frank x → infB x = true → fneg x = false := fun x hx hi => by
    rcases inf_ends hi with ⟨_, h2⟩ | ⟨h1, _⟩
    · omega
    · exact h1
  obtain ⟨n1, l1⟩ := add_high la le na ne ha he
  rcases fin_or na with fa | ia
  · rcases fin_or ne with fe | ie
    · obtain ⟨h1, h2⟩ := add_fin_rank 2 fa fe le
      rcases fin_or h1 with fr | ir
      · right
        refine ⟨fa, fe, fr, ?_⟩
        obtain ⟨z1, z2⟩ := rz_facts (fzs a + fzs e) (-1074) 2
        have f2 : finB (rz (fzs a + fzs e) (-1074) 2) = true := by
          have := fin_top fr
          exact fin_of_rank z1 (by omega) (by omega)
        have h3 := (rz_encl (fzs a + fzs e)).2 f2
        have h4 := (fzs_rank z1 h1).1 (by omega)
        omega
      · left
        have h3 := infB_rank ir
        have h4 := key _ l1 ir
        rw [h4] at h3
        simpa using h3
    · left
      rw [add_infR 2 la le ie na (fun h => absurd h (by rw [(fin_not fa).2]; decide)), key e he ie, (inf_facts false).2]; rfl
  · left
    rw [add_infL 2 le ia ne (fun h => by rw [key e he h, key a ha ia]), key a ha ia, (inf_facts false).2]; rfl
theorem fzs_eq {a b : Nat} (ha : nanB a = false) (hb : nanB b = false) (h : frank a = frank b) : fzs a = fzs b := by
  have h1 := (fzs_rank ha hb).1 (by omega)
  have h2 := (fzs_rank hb ha).1 (by omega)
  omega
theorem negp_facts {f : Nat} (lf : f < 18446744073709551616) (nf : nanB f = false) : nanB (plainF (fnegF f)) = false ∧ plainF (fnegF f) < 18446744073709551616 ∧ frank (plainF (fnegF f)) = -frank f ∧ (finB (plainF (fnegF f)) = true → finB f = true ∧ fzs (plainF (fnegF f)) = -fzs f) := by
  obtain ⟨p1, p2, -⟩ := neg_rank lf nf
  obtain ⟨q1, q2⟩ := plain_facts (fnegF f)
  refine ⟨by rw [q1, p1], plainF_lt fnegF_lt, by rw [q2, p2], fun h => ?_⟩
  have h1 := fin_top h
  have hf : finB f = true := fin_of_rank nf (by omega) (by omega)
  refine ⟨hf, ?_⟩
  rw [← (fneg_fzs lf hf).1]
  exact fzs_eq (by rw [q1, p1]) p1 q2
end Go.Proofs.YtekocoklfnojmaaGreatDoor

namespace Go.Proofs.YtekocoklfnojmaaGreatDoor
theorem fzs_lt2 {f : Nat} (h : finB f = true) : (fzs f).natAbs < 2 ^ (52 + low46) := by
  have := fz_bound h
  rw [← fzs_abs] at this
  exact this
theorem is_sub2 {d d' : Dy} {S : Nat} {N M : Int} (h : Is d S N) (h' : Is d' S M) (hS : S ≤ 65536) {B : Nat} (hb : (N - M).natAbs < 2 ^ B) (hB : B ≤ 65536) : Is (dsub d d') S (N - M) := by
  have := h.add h'.neg hS (B := B) (by rw [← Int.sub_eq_add_neg]; exact hb) hB
  rw [← Int.sub_eq_add_neg] at this
  exact this
theorem frd_is {d : Dy} {S : Nat} {N : Int} (h : Is d S N) (mode : Int) : frdF d mode = rz N (-(S : Int)) mode := by
  obtain ⟨m, e, rfl, -, h0, rfl⟩ := h
  show rz m e mode = _
  have := rz_up (S := m) (e + S).toNat e mode
  rw [show e - (((e + S).toNat : Nat) : Int) = -(S : Int) by omega] at this
  exact this.symm
/-- is the number of a dyad, rounded both ways, in an interval? -/
def contD (lo hi : Nat) (d : Dy) : Bool := subF (frdF d 1) (frdF d 2) lo hi
theorem frd_good {d : Dy} {S : Nat} {N : Int} (h : Is d S N) : Good (frdF d 1) (frdF d 2) := by
  rw [frd_is h, frd_is h]
  obtain ⟨a1, a2⟩ := rz_facts N (-(S : Int)) 1
  obtain ⟨b1, b2⟩ := rz_facts N (-(S : Int)) 2
  obtain ⟨c1, c2, c3⟩ := rz_dirs N (-(S : Int))
  exact ⟨a2, b2, a1, b1, c2, c1, c3⟩
theorem contD_in {d : Dy} {S : Nat} {N : Int} (h : Is d S N) {lo hi : Nat} (g : Good lo hi) (h1 : frank lo ≤ frank (rz N (-(S : Int)) 1)) (h2 : frank (rz N (-(S : Int)) 2) ≤ frank hi) : contD lo hi d = true :=
  (frd_good h).sub g (by rw [frd_is h]; exact h1) (by rw [frd_is h]; exact h2)
structure InI (a b p : Nat) : Prop where
  g : Good a b
  f : finB p = true
  l : p < 18446744073709551616
  lo : frank a ≤ frank p
  hi : frank p ≤ frank b
theorem InI.n {a b p : Nat} (h : InI a b p) : nanB p = false := fin_nan h.f
theorem InI.of {a b p : Nat} (ha : a < 18446744073709551616) (hb : b < 18446744073709551616) (hp : p < 18446744073709551616) (h : contF a b p = true) : InI a b p := by
  unfold contF at h
  simp only [Bool.and_eq_true, decide_eq_true_eq] at h
  exact ⟨Good.of ha hb h.1.1.1, h.1.1.2, hp, h.1.2, h.2⟩
theorem InI.neg {a b p : Nat} (h : InI a b p) : InI (plainF (fnegF b)) (plainF (fnegF a)) (plainF (fnegF p)) ∧ fzs (plainF (fnegF p)) = -fzs p := by
  obtain ⟨g1, g2, g3⟩ := neg_good h.g
  obtain ⟨m1, m2, m3, m4⟩ := negp_facts h.l h.n
  have t := fin_top h.f
  have f := fin_of_rank m1 (by omega) (by omega)
  have h1 := h.lo
  have h2 := h.hi
  exact ⟨⟨g1, f, m2, by omega, by omega⟩, (m4 f).2⟩
theorem pow_twice (k : Nat) : 2 ^ (k + 1) = 2 ^ k + 2 ^ k := by rw [Nat.pow_succ]; omega
theorem adds_is {p q : Nat} (fp : finB p = true) (fq : finB q = true) : Is (dadd (fdy p) (fdy q)) 1074 (fzs p + fzs q) := by
  have h1 := fzs_lt2 fp
  have h2 := fzs_lt2 fq
  have h3 := pow_twice (52 + low46)
  refine (fdy_is fp).add (fdy_is fq) (by omega) (B := 52 + low46 + 1) ?_ (by rw [low46_le]; omega)
  generalize 2 ^ (52 + low46) = P at *
  generalize 2 ^ (52 + low46 + 1) = Q at *
  omega
theorem subs_is {p q : Nat} (fp : finB p = true) (fq : finB q = true) : Is (dsub (fdy p) (fdy q)) 1074 (fzs p - fzs q) := by
  have h1 := fzs_lt2 fp
  have h2 := fzs_lt2 fq
  have h3 := pow_twice (52 + low46)
  refine is_sub2 (fdy_is fp) (fdy_is fq) (by omega) (B := 52 + low46 + 1) ?_ (by rw [low46_le]; omega)
  generalize 2 ^ (52 + low46) = P at *
  generalize 2 ^ (52 + low46 + 1) = Q at *
  omega
end Go.Proofs.YtekocoklfnojmaaGreatDoor

namespace Go.Proofs.YtekocoklfnojmaaGreatDoor
theorem is_half {d : Dy} {N : Int} {B : Nat} (h : Is d 1074 N) (hb : N.natAbs < 2 ^ B) (hB : B ≤ 65536) : Is (dscale d (-1)) (1074 + 1) N := by
  obtain ⟨m, e, h1, h2, h3, h4⟩ := h
  subst h1
  have e1 : (max (-131072 : Int) (min (-1) 131072)) = -1 := by decide
  have e2 : m * 2 ^ (e + -1 + ((1074 + 1 : Nat) : Int)).toNat = N := by
    rw [h4, show (e + -1 + ((1074 + 1 : Nat) : Int)).toNat = (e + (1074 : Nat)).toNat by omega]
  have h5 := is_mk (y := m) (f := e + -1) (S := 1074 + 1) (B := B) (by omega) (by omega) (by omega) (by rw [e2]; exact hb)
  rw [e2] at h5
  show Is (dmk m (e + max (-131072) (min (-1) 131072))) (1074 + 1) N
  rw [e1]
  exact h5
def midF (a b : Nat) : Nat := if a = 18442240474082181120 then (if b = 9218868437227405312 then 0 else 18442240474082181119) else if b = 9218868437227405312 then 9218868437227405311 else plainF (frdF (dscale (dadd (fdy a) (fdy b)) (-1)) 0)
def radF (a b : Nat) : Nat := plainF (greatF [faddF (midF a b) (fnegF a) 2, faddF b (fnegF (midF a b)) 2])
theorem rz_self1 {b : Nat} (hb : finB b = true) (hl : b < 18446744073709551616) (mode : Int) : frank (rz (2 * fzs b) (-1075) mode) = frank b := by
  have := rz_up (S := fzs b) 1 (-1074) mode
  rw [show (-1074 - ((1 : Nat) : Int)) = -1075 from rfl, show fzs b * 2 ^ 1 = 2 * fzs b by omega] at this
  rw [this, rz_self hb hl]
theorem mid_in {a b : Nat} (h : Good a b) : InI a b (midF a b) := by
  have e1 : frank 9218868437227405311 = 9218868437227405311 := by decide +kernel
  have e2 : frank 18442240474082181119 = -9218868437227405311 := by decide +kernel
  have e0 : frank 0 = 0 := by decide
  have ra := rank_is_ninf h.l1
  have rb := rank_is_inf h.l2
  have hlo := h.lo
  have hhi := h.hi
  have hle := h.le
  unfold midF
  by_cases ha : a = 18442240474082181120
  · have := ra.2 ha
    rw [if_pos ha]
    by_cases hb : b = 9218868437227405312
    · have := rb.2 hb
      rw [if_pos hb]
      exact ⟨h, by decide, by omega, by omega, by omega⟩
    · have hb2 : frank b ≠ 9218868437227405312 := fun e => hb (rb.1 e)
      rw [if_neg hb]
      exact ⟨h, by decide, by omega, by omega, by omega⟩
  · have ha2 : frank a ≠ -9218868437227405312 := fun e => ha (ra.1 e)
    have ra2 := rank_le h.n1
    rw [if_neg ha]
    by_cases hb : b = 9218868437227405312
    · have := rb.2 hb
      rw [if_pos hb]
      exact ⟨h, by decide, by omega, by omega, by omega⟩
    · have hb2 : frank b ≠ 9218868437227405312 := fun e => hb (rb.1 e)
      have rb2 := rank_le h.n2
      rw [if_neg hb]
      have fa : finB a = true := fin_of_rank h.n1 (by omega) hlo
      have fb : finB b = true := fin_of_rank h.n2 hhi (by omega)
      have hs := adds_is fa fb
      have hbd : (fzs a + fzs b).natAbs < 2 ^ (52 + low46 + 1) := by
        have h1 := fzs_lt2 fa
        have h2 := fzs_lt2 fb
        have h3 := pow_twice (52 + low46)
        generalize 2 ^ (52 + low46) = P at *
        generalize 2 ^ (52 + low46 + 1) = Q at *
        omega
      have hh := is_half hs hbd (by rw [low46_le]; omega)
      have hm := (fzs_rank h.n1 h.n2).1 hle
      have l1 := rz_le (S := 2 * fzs a) (S' := fzs a + fzs b) (e := -1075) (by omega) 0
      have l2 := rz_le (S := fzs a + fzs b) (S' := 2 * fzs b) (e := -1075) (by omega) 0
      rw [rz_self1 fa h.l1] at l1
      rw [rz_self1 fb h.l2] at l2
      obtain ⟨z1, z2⟩ := rz_facts (fzs a + fzs b) (-1075) 0
      have hf : frdF (dscale (dadd (fdy a) (fdy b)) (-1)) 0 = rz (fzs a + fzs b) (-1075) 0 := frd_is hh 0
      rw [hf]
      have p := plain_facts (rz (fzs a + fzs b) (-1075) 0)
      have tl := fin_top fa
      have tr := fin_top fb
      exact ⟨h, fin_plain (fin_of_rank z1 (by omega) (by omega)), plainF_lt z2, by rw [p.2]; omega, by rw [p.2]; omega⟩
/-- the number of a float that is in an interval -/
theorem cont_self {a b p : Nat} (h : InI a b p) : contD a b (fdy p) = true := by
  refine contD_in (fdy_is h.f) h.g ?_ ?_
  · show _ ≤ frank (rz (fzs p) (-1074) 1)
    rw [rz_self h.f h.l]; exact h.lo
  · show frank (rz (fzs p) (-1074) 2) ≤ _
    rw [rz_self h.f h.l]; exact h.hi
theorem rad_num {a b : Nat} (h : Good a b) : nanB (faddF (midF a b) (fnegF a) 2) = false ∧ nanB (faddF b (fnegF (midF a b)) 2) = false := by
  have m := mid_in h
  have tm := fin_top m.f
  obtain ⟨n1, n2, -⟩ := neg_rank h.l1 h.n1
  obtain ⟨k1, k2, -⟩ := neg_rank m.l m.n
  have hlo := h.lo
  exact ⟨(add_high m.l fnegF_lt m.n n1 tm.1 (by omega)).1, (add_high h.l2 fnegF_lt h.n2 k1 h.hi (by omega)).1⟩
/-- what the radius says -/
theorem rad_fin {a b : Nat} (h : Good a b) (hr : finB (radF a b) = true) : finB a = true ∧ finB b = true ∧ fzs (midF a b) - fzs (radF a b) ≤ fzs a ∧ fzs b ≤ fzs (midF a b) + fzs (radF a b) := by
  have m := mid_in h
  have tm := fin_top m.f
  obtain ⟨s1, s2⟩ := rad_num h
  obtain ⟨n1, n2, -⟩ := neg_rank h.l1 h.n1
  obtain ⟨k1, k2, -⟩ := neg_rank m.l m.n
  have hlo := h.lo
  have c1 := high_sum m.l fnegF_lt m.n n1 tm.1 (by omega)
  have c2 := high_sum h.l2 fnegF_lt h.n2 k1 h.hi (by omega)
  have tr := fin_top hr
  unfold radF at hr tr ⊢
  rw [(plain_facts _).2] at tr
  obtain ⟨g1, g2⟩ := great_two s1 s2
  have gf := fzs_eq (by rw [(plain_facts _).1]; exact g1) g1 (plain_facts (greatF [faddF (midF a b) (fnegF a) 2, faddF b (fnegF (midF a b)) 2])).2
  rw [gf]
  have j1 := (fzs_rank s1 g1).1 (by omega)
  have j2 := (fzs_rank s2 g1).1 (by omega)
  rcases c1 with c1 | ⟨-, f1, -, f2⟩
  · omega
  · rcases c2 with c2 | ⟨f3, -, -, f4⟩
    · omega
    · have ta := fin_top f1
      have fa : finB a = true := fin_of_rank h.n1 (by omega) (by omega)
      rw [(fneg_fzs h.l1 fa).1] at f2
      rw [(fneg_fzs m.l m.f).1] at f4
      exact ⟨fa, f3, by omega, by omega⟩
theorem mid_size {a b p : Nat} (h : InI a b p) : nanB (magF a b) = false ∧ nanB (migF a b) = false ∧ nanB (fabsF p) = false ∧ frank (fabsF p) ≤ frank (magF a b) ∧ frank (migF a b) ≤ frank (fabsF p) := by
  obtain ⟨n1, n2, e1, e2⟩ := size_facts h.g
  obtain ⟨a1, a2⟩ := abs_rank h.n
  have hlo := h.lo
  have hhi := h.hi
  have hle := h.g.le
  refine ⟨n2, n1, a1, ?_, ?_⟩
  · rw [a2, e1]; split <;> (try split) <;> (try split) <;> omega
  · rw [a2, e2]; split <;> (try split) <;> (try split) <;> (try split) <;> omega
end Go.Proofs.YtekocoklfnojmaaGreatDoor

namespace Go.Proofs.YtekocoklfnojmaaGreatDoor
open Go Go.RowKit

theorem exA {V w : World} (h : Ext V w) (o : Obj) : Ext V (w.alloc o) := Ext.trans h ((Below.refl _ _).alloc (Nat.le_refl _) _)
theorem dbA {w wn : World} {bb nb : Bool} {ao : Option Addr} {n ca : Nat} {f : Int} (h : Ext (w.alloc (.cells #[.bool bb, .bool nb, .slice ao n ca, .int .i64 f] 36)) wn) : DBox wn w.heap.size bb nb ao n ca f :=
  (DBox.new w bb nb ao n ca f).below h
theorem exAD (V : World) (o : Obj) : Ext V (V.alloc o).drew := ((Below.refl _ _).alloc (Nat.le_refl _) _).drew
theorem dbA2 {w wn : World} {bb nb : Bool} {ao : Option Addr} {n ca : Nat} {f : Int} (h : Ext (w.alloc (.cells #[.bool bb, .bool nb, .slice ao n ca, .int .i64 f] 36)).drew wn) : DBox wn w.heap.size bb nb ao n ca f :=
  DBox.ext (w := (w.alloc (.cells #[.bool bb, .bool nb, .slice ao n ca, .int .i64 f] 36)).drew) (DBox.new w bb nb ao n ca f) h
/-- a dyad stored in a block of the call's own -/
theorem bstored {W w : World} {g : Nat} {bb nb mbb mb : Bool} {ao bo : Option Addr} {n ca m cb : Nat} {e f : Int} {d : Dy} (hx : DBox w g bb nb ao n ca e) (h : Dn w (.agg #[.bool mbb, .bool mb, .slice bo m cb, .int .i64 f]) d) (hw : Ext W w) (hg : W.heap.size ≤ g) :
    Dn ((((w.setCell ⟨g, 0, none⟩ (.bool mbb)).setCell ⟨g, 1, none⟩ (.bool mb)).setCell ⟨g, 2, none⟩ (.slice bo m cb)).setCell ⟨g, 3, none⟩ (.int .i64 f)) (.agg #[.bool mbb, .bool mb, .slice bo m cb, .int .i64 f]) d ∧
    DBox ((((w.setCell ⟨g, 0, none⟩ (.bool mbb)).setCell ⟨g, 1, none⟩ (.bool mb)).setCell ⟨g, 2, none⟩ (.slice bo m cb)).setCell ⟨g, 3, none⟩ (.int .i64 f)) g mbb mb bo m cb f ∧
    Ext W ((((w.setCell ⟨g, 0, none⟩ (.bool mbb)).setCell ⟨g, 1, none⟩ (.bool mb)).setCell ⟨g, 2, none⟩ (.slice bo m cb)).setCell ⟨g, 3, none⟩ (.int .i64 f)) :=
  ⟨h.only_dbox hx (only_set4 _ _ _ _ _ _), hx.stored _ _ _ _ _ _, Below.trans hw ((only_set4 w g (.bool mbb) (.bool mb) (.slice bo m cb) (.int .i64 f)).below hg)⟩

end Go.Proofs.YtekocoklfnojmaaGreatDoor
