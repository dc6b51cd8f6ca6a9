import Derived.Test.YtekocoklfnojmaaGreatDoorIMiddleU42
import Derived.Test.YtekocoklfnojmaaGreatDoorIMiddleU21
import Derived.Test.YtekocoklfnojmaaGreatDoorIMiddleU30
import Derived.Test.YtekocoklfnojmaaGreatDoorIMiddleU40
import Derived.Test.YtekocoklfnojmaaGreatDoorIMiddleU16
import Derived.Test.YtekocoklfnojmaaGreatDoorIMiddleU17
import Derived.Test.YtekocoklfnojmaaGreatDoorIMiddleU25
import Derived.Deep.CutBlock
import Derived.Test.YtekocoklfnojmaaGreatDoorIMiddleU27
import Derived.Test.YtekocoklfnojmaaGreatDoorIMiddleU26
import Derived.Deep.CutRange
import Derived.Test.YtekocoklfnojmaaGreatDoorIMiddleU12
import Derived.Test.YtekocoklfnojmaaGreatDoorIMiddleU13
import Derived.Test.YtekocoklfnojmaaGreatDoorIMiddleU33
namespace Go.Proofs.YtekocoklfnojmaaGreatDoor
open Go.RowKit

/-- contracts over letters -/
theorem negF_at {a r : Nat} (ha : a < 18446744073709551616) (h : fnegF a = r) (w : World) : Calls Tryz.prog 67 #[.int .u64 (a : Int)] w fun e w' => e = .returned (.int .u64 (r : Int)) ∧ w = w' := by rw [← h]; exact negF_any a ha w
theorem addF_at {a b r : Nat} {mode : Int} (ha : a < 18446744073709551616) (hb : b < 18446744073709551616) (h : faddF a b mode = r) (w : World) : Calls Tryz.prog 69 #[.int .u64 (a : Int), .int .u64 (b : Int), .int .i64 mode] w fun e w' => e = .returned (.int .u64 (r : Int)) ∧ Ext w w' := by rw [← h]; exact fadd_any a b mode ha hb w
theorem frd_at {v : Value} {d : Dy} {mode : Int} {r : Nat} {w : World} (hv : Dg w v d) (hT : Table w) (h : frdF d mode = r) : Calls Tryz.prog 86 #[v, .int .i64 mode] w fun e w' => e = .returned (.int .u64 (r : Int)) ∧ Ext w w' := by rw [← h]; exact frd_any v d mode w hv hT
theorem fma_lt {a b c : Nat} (mode : Int) (hc : c < 18446744073709551616) : fmaF a b c mode < 18446744073709551616 := by
  have h1 := sgz_le (fneg a != fneg b)
  have h2 := (cancel_num mode).2.1
  have h3 := fun S m => (rsum_num S m mode).2
  unfold fmaF
  repeat' split
  all_goals first | omega | exact h3 _ _
theorem fadd_lt {a b : Nat} (mode : Int) (hb : b < 18446744073709551616) : faddF a b mode < 18446744073709551616 := fma_lt mode hb
end Go.Proofs.YtekocoklfnojmaaGreatDoor

namespace Go.Proofs.YtekocoklfnojmaaGreatDoor

/-- a result's place in the order, where a NaN counts as zero -/
def rk (x : Nat) : Int := frank (nz x)
/-- rounded downward no number becomes the upper infinity -/
theorem fla_dirs {N : Nat} (h0 : N ≠ 0) (e : Int) : fla false N e false 1 < 9218868437227405312 ∧ fla false N e false 1 ≤ fla false N e false 2 ∧ fla true N e false 2 < 9218868437227405312 ∧ fla true N e false 2 ≤ fla true N e false 1 := by
  obtain ⟨T, hT⟩ : ∃ T : Nat, T = max 1074 (-e).toNat := ⟨_, rfl⟩
  rcases fla_spec h0 e (T := T) (by omega) (by omega) with ⟨lo, h1, h2, _⟩ | ⟨lo, b, h⟩
  · rw [h2, h2, h2, h2]; exact ⟨h1, Nat.le_refl _, h1, Nat.le_refl _⟩
  · have hl := h.lt
    rw [h.val, h.val, h.val, h.val]
    unfold fraise
    simp
    omega
theorem rz_dirs (S e : Int) : frank (rz S e 1) < 9218868437227405312 ∧ frank (rz S e 1) ≤ frank (rz S e 2) ∧ -9218868437227405312 < frank (rz S e 2) := by
  obtain ⟨p1, p2, p3⟩ := rank_sign S e 1
  obtain ⟨q1, q2, q3⟩ := rank_sign S e 2
  rcases Int.lt_trichotomy S 0 with h | h | h
  · obtain ⟨a1, a2, a3, a4⟩ := fla_dirs (N := S.natAbs) (by omega) e
    rw [p1 h, q1 h]; omega
  · rw [p3 h, q3 h]; omega
  · obtain ⟨a1, a2, a3, a4⟩ := fla_dirs (N := S.natAbs) (by omega) e
    rw [p2 h, q2 h]; omega

theorem fzs_rank {a b : Nat} (ha : nanB a = false) (hb : nanB b = false) : (frank a ≤ frank b ↔ fzs a ≤ fzs b) := by
  obtain ⟨h1, h2⟩ := fs_rank (T := 1074) hb ha
  rw [fs_fzs, fs_fzs] at h1
  omega
theorem vs_le {S S' e : Int} {T : Nat} (h : S ≤ S') : vs S e T ≤ vs S' e T := Int.mul_le_mul_of_nonneg_right h (Int.le_of_lt (Int.pow_pos (by omega)))
theorem rz_le {S S' e : Int} (h : S ≤ S') (mode : Int) : frank (rz S e mode) ≤ frank (rz S' e mode) := by
  obtain ⟨T, hT⟩ : ∃ T : Nat, T = max 1074 (-e).toNat := ⟨_, rfl⟩
  exact rz_mono (T := T) (by omega) (by omega) (by omega) (vs_le h) mode
theorem zero_rank {e : Nat} : frank e = 0 ↔ zeroB e = true := by
  unfold zeroB frank
  rw [decide_eq_true_iff]
  split <;> omega
theorem inf_ends {t : Nat} (h : infB t = true) : (fneg t = true ∧ frank t = -9218868437227405312) ∨ (fneg t = false ∧ frank t = 9218868437227405312) := by
  have h0 : fmag t = 9218868437227405312 := of_decide_eq_true h
  unfold frank
  cases fneg t
  · right; simp [h0]
  · left; simp [h0]
/-- an operation whose results lie between those at the ends; L, R: what may stand on the left and on the right -/
structure Mono (f : Nat → Nat → Int → Nat) (L R : Nat → Prop) : Prop where
  left : ∀ c t d u mode, L c → L t → L d → R u → frank c ≤ frank t → frank t ≤ frank d → min (rk (f c u mode)) (rk (f d u mode)) ≤ rk (f t u mode) ∧ rk (f t u mode) ≤ max (rk (f c u mode)) (rk (f d u mode))
  right : ∀ u c t d mode, L u → R c → R t → R d → frank c ≤ frank t → frank t ≤ frank d → min (rk (f u c mode)) (rk (f u d mode)) ≤ rk (f u t mode) ∧ rk (f u t mode) ≤ max (rk (f u c mode)) (rk (f u d mode))
  dirs : ∀ t u, L t → R u → finB t = true → finB u = true → rk (f t u 1) < 9218868437227405312 ∧ rk (f t u 1) ≤ rk (f t u 2) ∧ -9218868437227405312 < rk (f t u 2)
section
variable {f : Nat → Nat → Int → Nat} {L R : Nat → Prop}
end
end Go.Proofs.YtekocoklfnojmaaGreatDoor

namespace Go.Proofs.YtekocoklfnojmaaGreatDoor

/-- what the four roundings of a dyad with more bits are -/
structure NearBig (d lo hi near inn : Dy) (c : Int) : Prop where
  lo_ne : lo ≠ none
  hi_ne : hi ≠ none
  near_ne : near ≠ none
  lohi : lo ≠ hi
  a : sgn3 (sc lo) (sc d) = -1
  b : sgn3 (sc d) (sc hi) = -1
  below : dsub d lo ≠ none
  above : dsub hi d ≠ none
  cmp : sgn3 (sc (dsub d lo)) (sc (dsub hi d)) = c
  choice : c = -1 ∧ near = lo ∨ c = 1 ∧ near = hi ∨ c = 0 ∧ (near = lo ∨ near = hi)
  inward : dm d < 0 ∧ inn = hi ∨ 0 ≤ dm d ∧ inn = lo

end Go.Proofs.YtekocoklfnojmaaGreatDoor

namespace Go.Proofs.YtekocoklfnojmaaGreatDoor

/-- what the statement compares -/
structure QuoIs (a b lo hi : Dy) (p x y : Int) : Prop where
  lon : lo ≠ none
  hin : hi ≠ none
  lob : (blen (dm lo).natAbs : Int) ≤ p
  hib : (blen (dm hi).natAbs : Int) ≤ p
  lom : dmul lo b ≠ none
  him : dmul hi b ≠ none
  cx : sgn3 (sc (dmul lo b)) (sc a) = x
  cy : sgn3 (sc a) (sc (dmul hi b)) = y
  xle : ¬ 0 < x
  yle : ¬ 0 < y
  same : lo = hi ↔ x = 0
  both : x = 0 ↔ y = 0

end Go.Proofs.YtekocoklfnojmaaGreatDoor

namespace Go.Proofs.YtekocoklfnojmaaGreatDoor

/-- what the statement compares -/
structure RootIs (a lo hi : Dy) (x y : Int) : Prop where
  lon : lo ≠ none
  hin : hi ≠ none
  lob : blen (dm lo).natAbs ≤ 80
  hib : blen (dm hi).natAbs ≤ 80
  lom : dmul lo lo ≠ none
  him : dmul hi hi ≠ none
  cx : sgn3 (sc (dmul lo lo)) (sc a) = x
  cy : sgn3 (sc a) (sc (dmul hi hi)) = y
  xle : ¬ 0 < x
  yle : ¬ 0 < y
  same : lo = hi ↔ x = 0

end Go.Proofs.YtekocoklfnojmaaGreatDoor

namespace Go.Proofs.YtekocoklfnojmaaGreatDoor
open Go.RowKit

theorem fbA (V : World) (x y : Nat) : FB (V.alloc (.cells #[.int .u64 (x : Int), .int .u64 (y : Int)] 23)) V.heap.size [x, y] := heap_alloc_new V _
theorem fbB (V : World) (x y : Nat) (o : Obj) : FB ((V.alloc (.cells #[.int .u64 (x : Int), .int .u64 (y : Int)] 23)).alloc o) V.heap.size [x, y] := (fbA V x y).below ((Below.refl _ _).alloc (Nat.le_refl _) _)
theorem fbAd (V : World) (x y : Nat) : FB (V.alloc (.cells #[.int .u64 (x : Int), .int .u64 (y : Int)] 23)).drew V.heap.size [x, y] := fbA V x y
theorem fbBd (V : World) (x y : Nat) (o : Obj) : FB ((V.alloc (.cells #[.int .u64 (x : Int), .int .u64 (y : Int)] 23)).alloc o).drew V.heap.size [x, y] := fbB V x y o
theorem eA {V w : World} (h : Ext V w) (o : Obj) : Ext V (w.alloc o) := Ext.trans h ((Below.refl _ _).alloc (Nat.le_refl _) _)
theorem eAd (V : World) (o : Obj) : Ext V (V.alloc o).drew := (eA (Ext.refl V) o).drew
theorem eAAd (V : World) (o o' : Obj) : Ext V ((V.alloc o).alloc o').drew := (eA (eA (Ext.refl V) o) o').drew
end Go.Proofs.YtekocoklfnojmaaGreatDoor

namespace Go.Proofs.YtekocoklfnojmaaGreatDoor
open Go.RowKit

theorem abs_lt64 (f : Nat) : fabsF f < 18446744073709551616 := by have := fmag_lt f; unfold fabsF; split <;> omega
def magF (a b : Nat) : Nat := greatF [fabsF a, fabsF b]
def migF (a b : Nat) : Nat := if containsF a b then 0 else leastF [fabsF a, fabsF b]
theorem magF_lt (a b : Nat) : magF a b < 18446744073709551616 := greatF_lt (two_lt (abs_lt64 a) (abs_lt64 b))
theorem migF_lt (a b : Nat) : migF a b < 18446744073709551616 := by
  unfold migF
  split
  · omega
  · exact leastF_lt (two_lt (abs_lt64 a) (abs_lt64 b))

set_option maxRecDepth 100000 in
set_option maxHeartbeats 4000000 in
theorem imag_yes (a b : Nat) (ha : a < 18446744073709551616) (hb : b < 18446744073709551616) (h1 : validF a b = true) (w : World) :
    Calls Tryz.prog 42 #[.agg #[.int .u64 (a : Int), .int .u64 (b : Int)]] w fun e w' => e = .returned (.int .u64 ((magF a b : Nat) : Int)) ∧ Ext w w' := by
  have C1 := Lib.hid (ivalid_at a b ha hb rfl rfl true h1)
  have CA := absF_any a ha
  have CB := absF_any b hb
  have HL := two_lt (abs_lt64 a) (abs_lt64 b)
  unfold magF
  generalize fabsF a = p at *
  generalize fabsF b = q at *
  have CA := Lib.hid CA
  have CB := Lib.hid CB
  have HL := Lib.hid HL
  obtain ⟨R, hR⟩ : ∃ R : Int, ((greatF [p, q] : Nat) : Int) = R := ⟨_, rfl⟩
  rw [hR]
  have HR := Lib.hid hR
  clear h1 ha hb hR
  go_enter Tryz.func42, Tryz.ntmps42
  go_upto_region 1 with fail
  obtain ⟨W, hW, hB, hx, hsz⟩ := ibox_new w a b
  rw [← hW]
  clear hW
  generalize hBe : w.heap.size = B at *
  have HB := Lib.hid hB
  clear hB hBe
  have c0 := hx.c0
  have c1 := hx.c1
  go_wp2_with fail
  refine (C1.out _).mono ?_
  rintro r V ⟨rfl, hE⟩
  have hx := hx.below hE
  have HB := Lib.hid (Ext.trans HB.out hE)
  clear c0 c1 hE
  have c0 := hx.c0
  have c1 := hx.c1
  have HC := Lib.hid (show ∀ wx, Ext V wx → wx.cell? ⟨B, 0, none⟩ = some (.int .u64 (a : Int)) ∧ wx.cell? ⟨B, 1, none⟩ = some (.int .u64 (b : Int)) from fun wx h => ⟨(hx.below h).c0, (hx.below h).c1⟩)
  go_upto_region 3 with fail
  have st : Ext V V.drew := (Below.refl _ _).drew
  go_region_held3 (fun wx => wx.cell? ⟨B, 0, none⟩ = some (.int .u64 (a : Int)) ∧ wx.cell? ⟨B, 1, none⟩ = some (.int .u64 (b : Int)))
    (first | exact HC.out _ (by first | assumption | exact eA (by assumption) _ | exact eAd _ _ | exact eAAd _ _ _ | exact eA (eA (by assumption) _) _) | (refine ⟨?_, ?_⟩ <;> go_simp))
    (first
      | (go_at_call 56; (with_reducible refine (CA.out _).mono ?_); rintro r wa ⟨rfl, rfl⟩)
      | (go_at_call 56; (with_reducible refine (CB.out _).mono ?_); rintro r wb ⟨rfl, rfl⟩)
      | (go_at_call 81; refine (greatest_any _ [p, q] 2 rfl (by omega) HL.out _ (by first | exact fbAd _ _ _ | exact fbA _ _ _ | exact fbBd _ _ _ _ | exact fbB _ _ _ _)).mono ?_; rintro r wd ⟨rfl, hEd⟩; have std : Ext V wd := Ext.trans (by first | assumption | exact eA (by assumption) _ | exact eAd _ _ | exact eAAd _ _ _) hEd; obtain ⟨e0, e1⟩ := HC.out wd std))
  all_goals
    have HF := Lib.hid (Ext.trans HB.out std)
    go_wp2
    go_ret
    exact ⟨by first | (rw [← HR.out]; done) | (rw [← HR.out]; rfl), HF.out⟩

set_option maxRecDepth 100000 in
set_option maxHeartbeats 4000000 in
theorem imig_yes (a b : Nat) (ha : a < 18446744073709551616) (hb : b < 18446744073709551616) (h1 : validF a b = true) (w : World) :
    Calls Tryz.prog 44 #[.agg #[.int .u64 (a : Int), .int .u64 (b : Int)]] w fun e w' => e = .returned (.int .u64 ((migF a b : Nat) : Int)) ∧ Ext w w' := by
  have C1 := Lib.hid (ivalid_at a b ha hb rfl rfl true h1)
  have CZ := Lib.hid (contains_any a b ha hb)
  have CA := absF_any a ha
  have CB := absF_any b hb
  have HL := two_lt (abs_lt64 a) (abs_lt64 b)
  unfold migF
  generalize fabsF a = p at *
  generalize fabsF b = q at *
  have CA := Lib.hid CA
  have CB := Lib.hid CB
  have HL := Lib.hid HL
  obtain ⟨z, hz⟩ : ∃ z, containsF a b = z := ⟨_, rfl⟩
  rw [hz] at CZ ⊢
  obtain ⟨R, hR⟩ : ∃ R : Int, (((if z = true then 0 else leastF [p, q]) : Nat) : Int) = R := ⟨_, rfl⟩
  rw [hR]
  have HR := Lib.hid hR
  clear h1 ha hb hR hz
  go_enter Tryz.func44, Tryz.ntmps44
  go_upto_region 1 with fail
  obtain ⟨W, hW, hB, hx, hsz⟩ := ibox_new w a b
  rw [← hW]
  clear hW
  generalize hBe : w.heap.size = B at *
  have HB := Lib.hid hB
  clear hB hBe
  have c0 := hx.c0
  have c1 := hx.c1
  go_wp2_with fail
  refine (C1.out _).mono ?_
  rintro r V ⟨rfl, hE⟩
  have hx := hx.below hE
  have HB := Lib.hid (Ext.trans HB.out hE)
  clear c0 c1 hE
  have c0 := hx.c0
  have c1 := hx.c1
  cases z with
  | true =>
    obtain rfl : R = 0 := by rw [← HR.out]; rfl
    go_wp2_with fail
    refine (CZ.out _).mono ?_
    rintro r V2 ⟨rfl, hE⟩
    have HF := Lib.hid (Ext.trans HB.out hE)
    go_wp2
    go_ret
    exact ⟨rfl, HF.out⟩
  | false =>
    go_wp2_with fail
    refine (CZ.out _).mono ?_
    rintro r V2 ⟨rfl, hE⟩
    have hx := hx.below hE
    have HB := Lib.hid (Ext.trans HB.out hE)
    clear c0 c1 hE
    obtain ⟨V, hV⟩ : ∃ V, V = V2 := ⟨_, rfl⟩
    subst hV
    have c0 := hx.c0
    have c1 := hx.c1
    have HC := Lib.hid (show ∀ wx, Ext V wx → wx.cell? ⟨B, 0, none⟩ = some (.int .u64 (a : Int)) ∧ wx.cell? ⟨B, 1, none⟩ = some (.int .u64 (b : Int)) from fun wx h => ⟨(hx.below h).c0, (hx.below h).c1⟩)
    go_upto_region 5 with fail
    have st : Ext V V.drew := (Below.refl _ _).drew
    go_region_held3 (fun wx => wx.cell? ⟨B, 0, none⟩ = some (.int .u64 (a : Int)) ∧ wx.cell? ⟨B, 1, none⟩ = some (.int .u64 (b : Int)))
      (first | exact HC.out _ (by first | assumption | exact eA (by assumption) _ | exact eAd _ _ | exact eAAd _ _ _ | exact eA (eA (by assumption) _) _) | (refine ⟨?_, ?_⟩ <;> go_simp))
      (first
        | (go_at_call 56; (with_reducible refine (CA.out _).mono ?_); rintro r wa ⟨rfl, rfl⟩)
        | (go_at_call 56; (with_reducible refine (CB.out _).mono ?_); rintro r wb ⟨rfl, rfl⟩)
        | (go_at_call 84; refine (least_any _ [p, q] 2 rfl (by omega) HL.out _ (by first | exact fbAd _ _ _ | exact fbA _ _ _ | exact fbBd _ _ _ _ | exact fbB _ _ _ _)).mono ?_; rintro r wd ⟨rfl, hEd⟩; have std : Ext V wd := Ext.trans (by first | assumption | exact eA (by assumption) _ | exact eAd _ _ | exact eAAd _ _ _) hEd; obtain ⟨e0, e1⟩ := HC.out wd std))
    all_goals
      have HF := Lib.hid (Ext.trans HB.out std)
      go_wp2
      go_ret
      exact ⟨by first | (rw [← HR.out]; done) | (rw [← HR.out]; rfl), HF.out⟩

end Go.Proofs.YtekocoklfnojmaaGreatDoor

namespace Go.Proofs.YtekocoklfnojmaaGreatDoor
open Go Go.RowKit

/-- turned about, an interval is valid -/
theorem valid_neg {a b : Nat} (ha : a < 18446744073709551616) (hb : b < 18446744073709551616) (h : validF a b = true) : validF (fnegF b) (fnegF a) = true := by
  rw [valid_iff ha hb] at h
  obtain ⟨n1, n2, h1, h2, h3⟩ := h
  rw [valid_iff fnegF_lt fnegF_lt]
  obtain ⟨p1, p2, -⟩ := neg_rank ha n1
  obtain ⟨q1, q2, -⟩ := neg_rank hb n2
  exact ⟨q1, p1, by omega, by omega, by omega⟩
theorem valid_plain {a b : Nat} (ha : a < 18446744073709551616) (hb : b < 18446744073709551616) (h : validF a b = true) : validF (plainF a) (plainF b) = true := by
  rw [valid_iff ha hb] at h
  rw [valid_iff (plainF_lt ha) (plainF_lt hb), (plain_facts a).1, (plain_facts a).2, (plain_facts b).1, (plain_facts b).2]
  exact h

end Go.Proofs.YtekocoklfnojmaaGreatDoor

namespace Go.Proofs.YtekocoklfnojmaaGreatDoor

/-- two bounds that make a valid interval -/
structure Good (p q : Nat) : Prop where
  l1 : p < 18446744073709551616
  l2 : q < 18446744073709551616
  n1 : nanB p = false
  n2 : nanB q = false
  le : frank p ≤ frank q
  lo : frank p < 9218868437227405312
  hi : -9218868437227405312 < frank q
theorem Good.of {a b : Nat} (ha : a < 18446744073709551616) (hb : b < 18446744073709551616) (h : validF a b = true) : Good a b := by
  obtain ⟨v1, v2, v3, v4, v5⟩ := (valid_iff ha hb).1 h
  exact ⟨ha, hb, v1, v2, v3, v4, v5⟩
theorem Good.valid {a b : Nat} (h : Good a b) : validF a b = true := (valid_iff h.l1 h.l2).2 ⟨h.n1, h.n2, h.le, h.lo, h.hi⟩
theorem Good.plain {a b : Nat} (h : Good a b) : Good (plainF a) (plainF b) := by
  obtain ⟨p1, p2⟩ := plain_facts a
  obtain ⟨q1, q2⟩ := plain_facts b
  exact ⟨plainF_lt h.l1, plainF_lt h.l2, by rw [p1]; exact h.n1, by rw [q1]; exact h.n2, by rw [p2, q2]; exact h.le, by rw [p2]; exact h.lo, by rw [q2]; exact h.hi⟩
theorem Good.sub {p q p' q' : Nat} (h : Good p q) (h' : Good p' q') (h1 : frank p' ≤ frank p) (h2 : frank q ≤ frank q') : subF p q p' q' = true := by
  rw [sub_rank h.valid h'.valid, decide_eq_true h1, decide_eq_true h2]; rfl
theorem add_fin_rank {a b : Nat} (mode : Int) (fa : finB a = true) (fb : finB b = true) (lb : b < 18446744073709551616) : nanB (faddF a b mode) = false ∧ frank (faddF a b mode) = frank (rz (fzs a + fzs b) (-1074) mode) := by
  refine ⟨(add_num mode fa fb lb).1, ?_⟩
  obtain ⟨h1, h2⟩ := add_fin mode fa fb lb
  by_cases h : fzs a + fzs b = 0
  · rw [frank_zero (h1 h), h]
    exact (frank_zero (by unfold rz; rw [if_pos rfl]; decide)).symm
  · rw [h2 h]; unfold rz; rw [if_neg h]
theorem add_infL {a b : Nat} (mode : Int) (lb : b < 18446744073709551616) (ia : infB a = true) (hb : nanB b = false) (h : infB b = true → fneg b = fneg a) : faddF a b mode = 9218868437227405312 + sgz (fneg a) := by
  unfold faddF
  rw [add_form, (inf_not ia).1, hb, ia]
  simp only [Bool.or_false, Bool.true_and, Bool.false_eq_true, if_false, if_true]
  cases ib : infB b with
  | true =>
    have := inf_val lb ib
    rw [h ib] at this
    rw [this]; simp
  | false => simp
theorem add_infR {a b : Nat} (mode : Int) (la : a < 18446744073709551616) (lb : b < 18446744073709551616) (ib : infB b = true) (ha : nanB a = false) (h : infB a = true → fneg a = fneg b) : faddF a b mode = 9218868437227405312 + sgz (fneg b) := by
  rw [faddF_comm la lb]
  exact add_infL mode la ib ha h
theorem inf_facts (s : Bool) : nanB (9218868437227405312 + sgz s) = false ∧ frank (9218868437227405312 + sgz s) = if s then -9218868437227405312 else 9218868437227405312 := by
  rw [Nat.add_comm]
  exact ⟨by cases s <;> decide, by rw [rank_sgz _ (Nat.le_refl _)]; rfl⟩
/-- upper bounds -/
theorem add_high {a e : Nat} (la : a < 18446744073709551616) (le : e < 18446744073709551616) (na : nanB a = false) (ne : nanB e = false) (ha : -9218868437227405312 < frank a) (he : -9218868437227405312 < frank e) : nanB (faddF a e 2) = false ∧ -9218868437227405312 < frank (faddF a e 2) := by
  have key : ∀ x, -9218868437227405312 < frank x → infB x = true → fneg x = false := fun x hx hi => by
    rcases inf_ends hi with ⟨_, h2⟩ | ⟨h1, _⟩
    · omega
    · exact h1
  rcases fin_or na with fa | ia
  · rcases fin_or ne with fe | ie
    · obtain ⟨h1, h2⟩ := add_fin_rank 2 fa fe le
      exact ⟨h1, by rw [h2]; exact (rz_dirs _ _).2.2⟩
    · rw [add_infR 2 la le ie na (fun h => absurd h (by rw [(fin_not fa).2]; decide)), key e he ie]
      exact ⟨(inf_facts false).1, by rw [(inf_facts false).2]; simp⟩
  · rw [add_infL 2 le ia ne (fun h => by rw [key e he h, key a ha ia]), key a ha ia]
    exact ⟨(inf_facts false).1, by rw [(inf_facts false).2]; simp⟩
theorem neg_good {a b : Nat} (h : Good a b) : Good (plainF (fnegF b)) (plainF (fnegF a)) ∧ frank (plainF (fnegF b)) = -frank b ∧ frank (plainF (fnegF a)) = -frank a := by
  have v := valid_plain fnegF_lt fnegF_lt (valid_neg h.l1 h.l2 h.valid)
  obtain ⟨p1, p2, -⟩ := neg_rank h.l1 h.n1
  obtain ⟨q1, q2, -⟩ := neg_rank h.l2 h.n2
  exact ⟨Good.of (plainF_lt fnegF_lt) (plainF_lt fnegF_lt) v, by rw [(plain_facts _).2, q2], by rw [(plain_facts _).2, p2]⟩
/-- a divisor that does not contain zero lies on one side -/
theorem no_zero {c d : Nat} (h : Good c d) (h0 : containsF c d = false) : 0 < frank c ∨ frank d < 0 := by
  have hz : frank 0 = 0 := frank_zero (by decide)
  unfold containsF lessF at h0
  rw [h.n1, h.n2, show nanB 0 = false by decide, hz] at h0
  simp at h0
  omega
theorem has_zero {c d : Nat} (h : Good c d) (h1 : frank c ≤ 0) (h2 : 0 ≤ frank d) : containsF c d = true := by
  have hz : frank 0 = 0 := frank_zero (by decide)
  unfold containsF lessF
  rw [h.n1, h.n2, show nanB 0 = false by decide, hz]
  simp
  omega
theorem sub_zero {a b c d : Nat} (hx : Good a b) (hy : Good c d) (h1 : frank c ≤ frank a) (h2 : frank b ≤ frank d) (h0 : containsF c d = false) : containsF a b = false := by
  have hle := hx.le
  cases h : containsF a b with
  | false => rfl
  | true =>
    exfalso
    have hz : frank 0 = 0 := frank_zero (by decide)
    unfold containsF lessF at h
    rw [hx.n1, hx.n2, show nanB 0 = false by decide, hz] at h
    simp at h
    rw [has_zero hy (by omega) (by omega)] at h0
    cases h0
theorem abs_rank {a : Nat} (h : nanB a = false) : nanB (fabsF a) = false ∧ frank (fabsF a) = if frank a < 0 then -frank a else frank a := by
  have h1 := nanB_not h
  have h2 : fabsF a = fmag a := by unfold fabsF; rw [h]; rfl
  have h3 : fmag (fmag a) = fmag a := Nat.mod_eq_of_lt (fmag_lt a)
  have h4 : fneg (fmag a) = false := by unfold fneg; have := fmag_lt a; exact decide_eq_false (by omega)
  rw [h2]
  refine ⟨by unfold nanB; rw [h3]; exact decide_eq_false (by omega), ?_⟩
  unfold frank
  rw [h3, h4]
  simp only [Bool.false_eq_true, if_false]
  cases fneg a
  · simp; omega
  · simp; omega
theorem size_facts {a b : Nat} (h : Good a b) : nanB (migF a b) = false ∧ nanB (magF a b) = false ∧
    frank (magF a b) = max (if frank a < 0 then -frank a else frank a) (if frank b < 0 then -frank b else frank b) ∧
    frank (migF a b) = if frank a ≤ 0 ∧ 0 ≤ frank b then 0 else min (if frank a < 0 then -frank a else frank a) (if frank b < 0 then -frank b else frank b) := by
  obtain ⟨a1, a2⟩ := abs_rank h.n1
  obtain ⟨b1, b2⟩ := abs_rank h.n2
  obtain ⟨g1, g2⟩ := great_two a1 b1
  obtain ⟨l1, l2⟩ := least_two a1 b1
  have hz : frank 0 = 0 := frank_zero (by decide)
  have hle := h.le
  refine ⟨?_, g1, by unfold magF; rw [g2, a2, b2], ?_⟩
  · unfold migF
    split
    · decide
    · exact l1
  · unfold migF
    cases hc : containsF a b with
    | true =>
      have : frank a ≤ 0 ∧ 0 ≤ frank b := by
        unfold containsF lessF at hc
        rw [h.n1, h.n2, show nanB 0 = false by decide, hz] at hc
        simp at hc
        omega
      rw [if_pos rfl, if_pos this, hz]
    | false =>
      have := no_zero h hc
      rw [if_neg (by decide), if_neg (by omega), l2, a2, b2]
theorem fin_of_rank {p : Nat} (hn : nanB p = false) (h1 : -9218868437227405312 < frank p) (h2 : frank p < 9218868437227405312) : finB p = true := by
  rcases fin_or hn with hf | hi
  · exact hf
  · rcases inf_ends hi with ⟨_, h⟩ | ⟨_, h⟩ <;> omega
end Go.Proofs.YtekocoklfnojmaaGreatDoor

namespace Go.Proofs.YtekocoklfnojmaaGreatDoor
open Go.RowKit

/-- what comparing two dyads gives -/
def DcmpIs (d d' : Dy) (c : Int) (ok : Bool) : Prop := (d = none ∨ d' = none) ∧ c = 0 ∧ ok = false ∨ d ≠ none ∧ d' ≠ none ∧ c = sgn3 (sc d) (sc d') ∧ ok = true
theorem dcmp_at {u v : Value} {d d' : Dy} {w : World} (hu : Dg w u d) (hv : Dg w v d') (hT : Table w) {c : Int} {ok : Bool} (h : DcmpIs d d' c ok) :
    Calls Tryz.prog 55 #[u, v] w fun e w' => e = .returned (.tuple #[.int .i64 c, .bool ok]) ∧ Ext w w' :=
  (dcmp_any u v d d' w hu hv hT).mono fun e w' ⟨he, hw⟩ => by
    refine ⟨?_, hw⟩
    rcases h with ⟨h0, rfl, rfl⟩ | ⟨h1, h2, rfl, rfl⟩
    · rcases he with ⟨_, he⟩ | ⟨h3, h4, _⟩
      · exact he
      · rcases h0 with h0 | h0
        · exact absurd h0 h3
        · exact absurd h0 h4
    · rcases he with ⟨h0, _⟩ | ⟨_, _, he⟩
      · rcases h0 with h0 | h0
        · exact absurd h0 h1
        · exact absurd h0 h2
      · exact he
end Go.Proofs.YtekocoklfnojmaaGreatDoor

namespace Go.Proofs.YtekocoklfnojmaaGreatDoor
open Go.RowKit

theorem fof_at {f : Nat} {d : Dy} (hf : f < 18446744073709551616) (h : fdy f = d) (w : World) (hT : Table64 w) : Calls Tryz.prog 47 #[.int .u64 (f : Int)] w fun e w' => ∃ v, e = .returned v ∧ Dn w' v d ∧ Ext w w' := by rw [← h]; exact fof_any f hf w hT
theorem is_dcmpS {d d' : Dy} {S : Nat} {N N' : Int} (h : Is d S N) (h' : Is d' S N') (hS : S ≤ 65536) : DcmpIs d d' (sgn3 N N') true := by
  have h1 := is_cmp h h' hS
  refine Or.inr ⟨?_, ?_, h1.symm, rfl⟩
  · obtain ⟨m, e, h2, _⟩ := h; rw [h2]; simp
  · obtain ⟨m, e, h2, _⟩ := h'; rw [h2]; simp
end Go.Proofs.YtekocoklfnojmaaGreatDoor

namespace Go.Proofs.YtekocoklfnojmaaGreatDoor
open Go.RowKit

/-- a root's number: what is under it, and where -/
structure RootOf (N : Nat) (e : Int) (M hi lo r : Nat) (E : Int) (s : Nat) : Prop where
  val : M = N * 2 ^ s
  exp : 2 * E + s = e
  words : hi * 18446744073709551616 + lo = M
  hlo : lo < 18446744073709551616
  hi0 : 1152921504606846976 ≤ hi
  hi1 : hi < 4611686018427387904
  r0 : r * r ≤ M
  r1 : M < (r + 1) * (r + 1)
  r2 : 4611686018427387904 ≤ r
  r3 : r < 9223372036854775808

end Go.Proofs.YtekocoklfnojmaaGreatDoor

namespace Go.Proofs.YtekocoklfnojmaaGreatDoor
open Go.RowKit

/-- a value, the dyad that it reads as, is it normalized -/
structure DEnt where
  v : Value
  d : Dy
  c : Bool

def DEnt.Ok (w : World) (p : DEnt) : Prop := Dg w p.v p.d ∧ (p.c = true → Dn w p.v p.d)

theorem DEnt.Ok.ext {w w' : World} {p : DEnt} (h : p.Ok w) (he : Ext w w') : p.Ok w' := ⟨h.1.ext he, fun e => (h.2 e).ext he⟩
/-- what is at hand -/
structure DSt (W w : World) (L : List DEnt) : Prop where
  ext : Ext W w
  tab : Table w
  bag : ∀ p ∈ L, p.Ok w

theorem DSt.step {W w w' : World} {L : List DEnt} (h : DSt W w L) (he : Ext w w') : DSt W w' L := ⟨h.ext.trans he, h.tab.below he, fun p hp => (h.bag p hp).ext he⟩
theorem DSt.drew {W w : World} {L : List DEnt} (h : DSt W w L) : DSt W w.drew L := h.step (Below.refl _ _).drew
theorem DSt.alloc {W w : World} {L : List DEnt} (h : DSt W w L) (o : Obj) : DSt W (w.alloc o) L := h.step ((Below.refl _ w).alloc (Nat.le_refl _) o)
section
variable {W w : World} {L : List DEnt} {u v : Value} {d d' : Dy} {c c' : Bool}

end
end Go.Proofs.YtekocoklfnojmaaGreatDoor
