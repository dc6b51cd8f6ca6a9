import Derived.Test.YthicfkeiggcjjaaGreatDoorEcDlU10
import Derived.Test.YthicfkeiggcjjaaGreatDoorEcDlU3
namespace Go.Proofs.YthicfkeiggcjjaaGreatDoor
open Go.RowKit

/-- the limbs V stand in block g behind P and before T -/
def Mid (w : World) (g : Nat) (P V T : List Int) : Prop := Blk w g (P ++ (V ++ T))

theorem getD_mid (P V T : List Int) (j : Nat) (h : j < V.length) : (P ++ (V ++ T)).getD (P.length + j) 0 = V.getD j 0 := by
  simp [List.getD, List.getElem?_append_right, List.getElem?_append_left, h]
theorem set_mid (P V T : List Int) (j : Nat) (x : Int) (h : j < V.length) : (P ++ (V ++ T)).set (P.length + j) x = P ++ (V.set j x ++ T) := by
  rw [List.set_append_right _ _ (by omega), Nat.add_sub_cancel_left, List.set_append_left _ _ h]

theorem Mid.cell {w : World} {g i : Nat} {P V T : List Int} (h : Mid w g P V T) (hi : P.length = i) (j : Nat) (hj : j < V.length) : w.cell? ⟨g, i + j, none⟩ = some (.int .u32 (V.getD j 0)) := by
  subst hi
  have := Blk.cell h (P.length + j) (by simp; omega)
  rwa [getD_mid P V T j hj] at this
theorem Mid.frozen {w : World} {g : Nat} {P V T : List Int} (h : Mid w g P V T) (o : Nat) : w.frozen? ⟨g, o, none⟩ = false := Blk.frozen h o
theorem Mid.set {w : World} {g i : Nat} {P V T : List Int} (h : Mid w g P V T) (hi : P.length = i) (j : Nat) (x : Int) (hj : j < V.length) : Mid (w.setCell ⟨g, i + j, none⟩ (.int .u32 x)) g P (V.set j x) T := by
  subst hi
  have := Blk.set h (P.length + j) x
  rw [set_mid P V T j x hj] at this
  exact this

/-- one step of the subtraction of a product: c is what is carried and borrowed -/
theorem subp_word (x y q c b : Int) (x0 : 0 ≤ x) (x1 : x < 4294967296) (p0 : 0 ≤ y * q) (p1 : y * q ≤ 18446744065119617025) (c0 : 0 ≤ c) (c1 : c ≤ 4294967295) (b0 : 0 ≤ b) (b1 : b ≤ 1) :
    0 ≤ (c + y * q) / 4294967296 ∧ (c + y * q) / 4294967296 ≤ 4294967295 ∧
    0 ≤ IntKind.u64.wrap (IntKind.u64.wrap (x - (c + y * q) % 4294967296) - b) / 9223372036854775808 ∧ IntKind.u64.wrap (IntKind.u64.wrap (x - (c + y * q) % 4294967296) - b) / 9223372036854775808 ≤ 1 ∧
    IntKind.u64.wrap (IntKind.u64.wrap (x - (c + y * q) % 4294967296) - b) % 4294967296 =
      x - y * q - (c + b) + 4294967296 * ((c + y * q) / 4294967296 + IntKind.u64.wrap (IntKind.u64.wrap (x - (c + y * q) % 4294967296) - b) / 9223372036854775808) := by
  rw [IntKind.wrap_u64, IntKind.wrap_u64]
  generalize y * q = p at *
  omega

theorem and_mask {a : Int} (h0 : 0 ≤ a) (h1 : a < 18446744073709551616) : bits BinOp.and IntKind.u64 a 4294967295 = a % 4294967296 := by
  obtain ⟨n, rfl⟩ := Int.eq_ofNat_of_zero_le h0
  have e := bits_and_u64_nat n 4294967295 (by omega) (by omega)
  have e2 : n &&& 4294967295 = n % 4294967296 := by
    have := Nat.and_two_pow_sub_one_eq_mod n 32
    simpa using this
  rw [e2] at e
  rw [show ((4294967295 : Nat) : Int) = 4294967295 from rfl] at e
  rw [e]
  omega

set_option maxRecDepth 100000 in
set_option maxHeartbeats 4000000 in
theorem subProduct_any (g i n cap cd : Nat) (P V T ds : List Int) (bo : Option Addr) (q : Int) (w : World) (hP : P.length = i) (hV : V.length = n + 1) (hwv : Wf V) (hB : Mid w g P V T) (hn : n ≤ 1000000000)
    (hdl : ds.length = n) (hwd : Wf ds) (hst : Stay g w bo ds) (q0 : 0 ≤ q) (q1 : q < 4294967296) :
    Calls Tryz.prog 122 #[.slice (some ⟨g, i, none⟩) (n + 1) cap, .slice bo n cd, .int .u32 q] w fun e w' => ∃ (b : Int) (V' : List Int), e = .returned (.bool (decide (0 < b))) ∧ 0 ≤ b ∧ b ≤ 1 ∧
      V'.length = n + 1 ∧ Wf V' ∧ num V' = num V - q * num ds + 4294967296 ^ (n + 1) * b ∧ Mid w' g P V' T ∧ Only g w w' := by
  have HP := Lib.hid hP; clear hP
  have HV := Lib.hid hV; clear hV
  have HD := Lib.hid hdl; clear hdl
  go_enter Tryz.func122, Tryz.ntmps122
  go_wp2
  go_loopw [7, 8, 9, 10, 11, 15] (fun c b _ _ _ k wr => ∃ (j : Nat) (cc bb : Int) (Vj : List Int), j ≤ n ∧ k = .int .i64 j ∧ c = .int .u64 cc ∧ b = .int .u64 bb ∧ 0 ≤ cc ∧ cc ≤ 4294967295 ∧ 0 ≤ bb ∧ bb ≤ 1 ∧ Taken V Vj j (cc + bb) (q * num (ds.take j)) ∧ Mid wr g P Vj T ∧ Only g w wr)
    (fun _ _ _ _ _ k _ => n - (intOf k).toNat)
  case atStart => exact ⟨0, 0, 0, V, Nat.zero_le _, rfl, rfl, rfl, by omega, by omega, by omega, by omega, by simpa [num] using Taken.start hwv, hB, Only.refl g w⟩
  case round =>
    obtain ⟨j, cc, bb, Vj, hj, rfl, rfl, rfl, c0, c1, b0, b1, hA, hbk, ho⟩ := hrel
    have hvl : Vj.length = n + 1 := by rw [hA.1, HV.out]
    by_cases hlt : j < n
    · obtain ⟨bd, od, rfl, hcb⟩ := hst _ ho (by rw [HD.out]; omega)
      have e1 := hcb j (by rw [HD.out]; omega)
      clear hcb
      have hyr := hwd.getD j
      obtain ⟨y, hy⟩ : ∃ y, ds.getD j 0 = y := ⟨_, rfl⟩
      rw [hy] at e1 hyr
      have HY := Lib.hid hy; clear hy
      obtain ⟨y0, y1⟩ := hyr
      have e2 := hbk.cell HP.out j (by omega)
      rw [getD_of_drop hA.2.2.1] at e2
      have e3 := hbk.frozen (i + j)
      have hxr := hwv.getD j
      obtain ⟨x, hx⟩ : ∃ x, V.getD j 0 = x := ⟨_, rfl⟩
      rw [hx] at e2 hxr
      have HX := Lib.hid hx; clear hx
      obtain ⟨x0, x1⟩ := hxr
      obtain ⟨p0, p1⟩ := mul_bounds' y0 y1 q0 q1
      have hmask := and_mask (a := cc + y * q) (by omega) (by omega)
      have HVL := Lib.hid hvl; clear hvl
      have HA := Lib.hid hA; clear hA
      go_wp2
      go_roundw
      case rel =>
        obtain ⟨s1, s2, s3, s4, s5⟩ := subp_word x y q cc bb x0 x1 p0 p1 c0 c1 b0 b1
        have st := HA.out.step (by rw [HV.out]; omega) (y * q) _ _ ⟨Int.emod_nonneg _ (by omega), Int.emod_lt_of_pos _ (by omega)⟩ (s5.trans (by rw [HX.out]))
        have en : q * num (ds.take j) + 4294967296 ^ j * (y * q) = q * num (ds.take (j + 1)) := by
          rw [num_take_succ ds j (by rw [HD.out]; exact hlt), HY.out, Int.mul_add, Int.mul_comm y q, Int.mul_left_comm]
        rw [en] at st
        exact ⟨j + 1, _, _, _, by omega, by go_num, rfl, rfl, s1, s2, s3, s4, st, hbk.set HP.out j _ (by rw [HVL.out]; omega), ho.setCell _ _⟩
      case measure => simp [intOf] <;> omega
    · obtain rfl : j = n := by omega
      have e2 := hbk.cell HP.out j (by omega)
      rw [getD_of_drop hA.2.2.1] at e2
      have e3 := hbk.frozen (i + j)
      have hxr := hwv.getD j
      obtain ⟨x, hx⟩ : ∃ x, V.getD j 0 = x := ⟨_, rfl⟩
      rw [hx] at e2 hxr
      have HX := Lib.hid hx; clear hx
      obtain ⟨x0, x1⟩ := hxr
      have HVL := Lib.hid hvl; clear hvl
      have HA := Lib.hid hA; clear hA
      go_wp2
      go_ret
      obtain ⟨s1, s2, s3⟩ := sub_word x cc bb x0 x1 c0 (by omega) b0 b1
      have st := HA.out.step (by rw [HV.out]; omega) 0 _ (IntKind.u64.wrap (IntKind.u64.wrap (x - cc) - bb) / 9223372036854775808) ⟨Int.emod_nonneg _ (by omega), Int.emod_lt_of_pos _ (by omega)⟩ (s3.trans (by rw [HX.out]; omega))
      rw [Int.mul_zero, Int.add_zero, List.take_of_length_le (by rw [HD.out]; exact Nat.le_refl _)] at st
      have hl := st.1
      have hnum := st.2.2.2
      rw [HV.out] at hl
      rw [List.take_of_length_le (by omega), List.take_of_length_le (by rw [HV.out]; exact Nat.le_refl _)] at hnum
      exact ⟨_, _, rfl, s1, s2, hl, st.2.1, hnum, hbk.set HP.out j _ (by rw [HVL.out]; omega), ho.setCell _ _⟩

set_option maxRecDepth 100000 in
set_option maxHeartbeats 4000000 in
theorem addWrapping_any (g i n cap cd : Nat) (P V T ds : List Int) (bo : Option Addr) (w : World) (hP : P.length = i) (hV : V.length = n + 1) (hwv : Wf V) (hB : Mid w g P V T) (hn : n ≤ 1000000000)
    (hdl : ds.length = n) (hwd : Wf ds) (hst : Stay g w bo ds) :
    Calls Tryz.prog 123 #[.slice (some ⟨g, i, none⟩) (n + 1) cap, .slice bo n cd] w fun e w' => ∃ (c : Int) (V' : List Int), e = .returned (.tuple #[]) ∧ 0 ≤ c ∧
      V'.length = n + 1 ∧ Wf V' ∧ num V' + 4294967296 ^ (n + 1) * c = num V + num ds ∧ Mid w' g P V' T ∧ Only g w w' := by
  have HP := Lib.hid hP; clear hP
  have HV := Lib.hid hV; clear hV
  have HD := Lib.hid hdl; clear hdl
  go_enter Tryz.func123, Tryz.ntmps123
  go_wp2
  go_loopw [4, 5, 6, 9] (fun c _ _ k wr => ∃ (j : Nat) (cc : Int) (Vj : List Int), j ≤ n ∧ k = .int .i64 j ∧ c = .int .u64 cc ∧ 0 ≤ cc ∧ cc ≤ 1 ∧ Added V Vj j cc (num (ds.take j)) ∧ Mid wr g P Vj T ∧ Only g w wr)
    (fun _ _ _ k _ => n - (intOf k).toNat)
  case atStart => exact ⟨0, 0, V, Nat.zero_le _, rfl, rfl, by omega, by omega, Added.start hwv, hB, Only.refl g w⟩
  case round =>
    obtain ⟨j, cc, Vj, hj, rfl, rfl, c0, c1, hA, hbk, ho⟩ := hrel
    have hvl : Vj.length = n + 1 := by rw [hA.1, HV.out]
    by_cases hlt : j < n
    · obtain ⟨bd, od, rfl, hcb⟩ := hst _ ho (by rw [HD.out]; omega)
      have e1 := hcb j (by rw [HD.out]; omega)
      clear hcb
      have hyr := hwd.getD j
      obtain ⟨y, hy⟩ : ∃ y, ds.getD j 0 = y := ⟨_, rfl⟩
      rw [hy] at e1 hyr
      have HY := Lib.hid hy; clear hy
      obtain ⟨y0, y1⟩ := hyr
      have e2 := hbk.cell HP.out j (by omega)
      rw [getD_of_drop hA.2.2.1] at e2
      have e3 := hbk.frozen (i + j)
      have hxr := hwv.getD j
      obtain ⟨x, hx⟩ : ∃ x, V.getD j 0 = x := ⟨_, rfl⟩
      rw [hx] at e2 hxr
      have HX := Lib.hid hx; clear hx
      obtain ⟨x0, x1⟩ := hxr
      have HVL := Lib.hid hvl; clear hvl
      have HA := Lib.hid hA; clear hA
      go_wp2
      go_roundw
      case rel =>
        have st := HA.out.step (by rw [HV.out]; omega) y (cc + (x + y)) (by rw [HX.out])
        rw [← HY.out, ← num_take_succ ds j (by rw [HD.out]; exact hlt), HY.out] at st
        exact ⟨j + 1, _, _, by omega, by go_num, rfl, by omega, by omega, st, hbk.set HP.out j _ (by rw [HVL.out]; omega), ho.setCell _ _⟩
      case measure => simp [intOf] <;> omega
    · obtain rfl : j = n := by omega
      have e2 := hbk.cell HP.out j (by omega)
      rw [getD_of_drop hA.2.2.1] at e2
      have e3 := hbk.frozen (i + j)
      have hxr := hwv.getD j
      obtain ⟨x, hx⟩ : ∃ x, V.getD j 0 = x := ⟨_, rfl⟩
      rw [hx] at e2 hxr
      have HX := Lib.hid hx; clear hx
      obtain ⟨x0, x1⟩ := hxr
      have HVL := Lib.hid hvl; clear hvl
      have HA := Lib.hid hA; clear hA
      go_wp2
      go_end0
      have st := HA.out.step (by rw [HV.out]; omega) 0 (cc + (x + 0)) (by rw [HX.out])
      rw [show cc + (x + 0) = x + cc by omega, Int.mul_zero, Int.add_zero, List.take_of_length_le (by rw [HD.out]; exact Nat.le_refl _)] at st
      have hl := st.1
      have hnum := st.2.2.2
      rw [HV.out] at hl
      rw [List.take_of_length_le (by omega), List.take_of_length_le (by rw [HV.out]; exact Nat.le_refl _)] at hnum
      exact ⟨(x + cc) / 4294967296, _, rfl, by omega, hl, st.2.1, hnum, hbk.set HP.out j _ (by rw [HVL.out]; omega), ho.setCell _ _⟩

theorem num_drop' (zs : List Int) (j : Nat) (h : j < zs.length) : num (zs.drop j) = zs.getD j 0 + 4294967296 * num (zs.drop (j + 1)) := by
  rw [List.drop_eq_getElem_cons h, ← getD_at h]; rfl

/-- the leading limbs of a window and of a divisor -/
theorem lead_of {V ds : List Int} {m : Nat} (hV : V.length = m + 2 + 1) (hd : ds.length = m + 2) (hwv : Wf V) (hwd : Wf ds) (htop : 2147483648 ≤ ds.getD (m + 1) 0) (huv : num V < num ds * 4294967296) :
    Lead (num V) (num ds) (V.getD (m + 2) 0 * 4294967296 + V.getD (m + 1) 0) (V.getD m 0) (ds.getD (m + 1) 0) (ds.getD m 0) (4294967296 ^ m) := by
  have e1 : num V = num (V.take m) + 4294967296 ^ m * ((V.getD (m + 2) 0 * 4294967296 + V.getD (m + 1) 0) * 4294967296 + V.getD m 0) := by
    have h := num_append (V.take m) (V.drop m)
    rw [List.take_append_drop, List.length_take, Nat.min_eq_left (by omega)] at h
    rw [h, num_drop' V m (by omega), num_drop' V (m + 1) (by omega), num_drop' V (m + 1 + 1) (by omega), List.drop_eq_nil_of_le (by omega : V.length ≤ m + 1 + 1 + 1)]
    simp only [num, show m + 1 + 1 = m + 2 from rfl]
    congr 2
    omega
  have e2 : num ds = num (ds.take m) + 4294967296 ^ m * (ds.getD (m + 1) 0 * 4294967296 + ds.getD m 0) := by
    have h := num_append (ds.take m) (ds.drop m)
    rw [List.take_append_drop, List.length_take, Nat.min_eq_left (by omega)] at h
    rw [h, num_drop' ds m (by omega), num_drop' ds (m + 1) (by omega), List.drop_eq_nil_of_le (by omega : ds.length ≤ m + 1 + 1)]
    simp only [num]
    congr 2
    omega
  have t1 := num_lt (hwv.take m)
  have t0 := num_nonneg (hwv.take m)
  have r1 := num_lt (hwd.take m)
  have r0 := num_nonneg (hwd.take m)
  rw [List.length_take, Nat.min_eq_left (by omega)] at t1 r1
  have g2 := hwv.getD (m + 2)
  have g1 := hwv.getD (m + 1)
  have g0 := hwv.getD m
  have f1 := hwd.getD (m + 1)
  have f0 := hwd.getD m
  refine ⟨pow_pos' m, ?_, ?_, ?_, ?_, by omega, g0.1, g0.2, f0.1, f0.2, htop, f1.2, huv⟩
  · rw [e1, Int.mul_comm]; omega
  · rw [e1, Int.add_mul _ 1, Int.one_mul, Int.mul_comm _ (4294967296 ^ m)]; omega
  · rw [e2, Int.mul_comm]; omega
  · rw [e2, Int.add_mul _ 1, Int.one_mul, Int.mul_comm _ (4294967296 ^ m)]; omega

theorem wrap_case {u v Q r q b N X : Int} (hdm : v * Q + r = u) (r0 : 0 ≤ r) (r1 : r < v) (q1 : Q ≤ q) (q2 : q ≤ Q + 1) (b0 : 0 ≤ b) (b1 : b ≤ 1) (hN : N = u - q * v + X * b) (n0 : 0 ≤ N) (n1 : N < X) :
    (b = 0 ∧ q = Q ∧ N = r) ∨ (b = 1 ∧ q = Q + 1 ∧ N = r - v + X) := by
  have hqc : q = Q ∨ q = Q + 1 := by omega
  have hbc : b = 0 ∨ b = 1 := by omega
  rcases hqc with rfl | rfl
  · rcases hbc with rfl | rfl
    · left
      rw [Int.mul_comm v q] at hdm
      refine ⟨rfl, rfl, ?_⟩
      rw [Int.mul_zero] at hN
      omega
    · exfalso
      rw [Int.mul_comm v q] at hdm
      rw [Int.mul_one] at hN
      omega
  · rw [Int.add_mul, Int.one_mul, Int.mul_comm Q v] at hN
    rcases hbc with rfl | rfl
    · exfalso
      rw [Int.mul_zero] at hN
      omega
    · right
      rw [Int.mul_one] at hN
      exact ⟨rfl, rfl, by omega⟩

theorem wrap_back {r c N X : Int} (c0 : 0 ≤ c) (r0 : 0 ≤ r) (r1 : r < X) (n0 : 0 ≤ N) (n1 : N < X) (h : N + X * c = r + X) : N = r := by
  have hc : c = 0 ∨ c = 1 ∨ 2 ≤ c := by omega
  rcases hc with rfl | rfl | hc
  · rw [Int.mul_zero] at h; omega
  · rw [Int.mul_one] at h; omega
  · have := Int.mul_le_mul_of_nonneg_left hc (show 0 ≤ X by omega)
    omega

set_option maxRecDepth 100000 in
set_option maxHeartbeats 4000000 in
theorem reduce_any (g i m cap cd : Nat) (P V T ds : List Int) (bo : Option Addr) (w : World) (hP : P.length = i) (hV : V.length = m + 2 + 1) (hwv : Wf V) (hB : Mid w g P V T) (hm : m ≤ 100000000)
    (hwd : Wf ds) (hdl : ds.length = m + 2) (hst : Stay g w bo ds) (htop : 2147483648 ≤ ds.getD (m + 1) 0) (huv : num V < num ds * 4294967296) :
    Calls Tryz.prog 111 #[.slice (some ⟨g, i, none⟩) (m + 2 + 1) cap, .slice bo (m + 2) cd] w fun e w' => ∃ (V' : List Int), e = .returned (.int .u32 (num V / num ds)) ∧
      V'.length = m + 2 + 1 ∧ Wf V' ∧ num V' = num V % num ds ∧ Mid w' g P V' T ∧ Only g w w' := by
  have hL := lead_of hV hdl hwv hwd htop huv
  obtain ⟨bd, od, rfl, hcb⟩ := hst w (Only.refl g w) (by omega)
  have c1 := hB.cell hP (m + 2) (by omega)
  have c2 := hB.cell hP (m + 1) (by omega)
  have c3 := hB.cell hP m (by omega)
  have d1 := hcb (m + 1) (by omega)
  have d2 := hcb m (by omega)
  have g2 := hwv.getD (m + 2)
  have g1 := hwv.getD (m + 1)
  have hE := estimate_any _ _ _ _ _ _ _ _ g i m cap bd od cd w hL (by omega) g2.1 g2.2 g1.1 g1.2 c1 c2 c3 d1 d2
  have HE := Lib.hid hE
  clear hE c1 c2 c3 d1 d2 hcb g1 g2
  have hvp := hL.vpos
  have hup := hL.unonneg
  have hQ0 : 0 ≤ num V / num ds := Int.ediv_nonneg hup (Int.le_of_lt hvp)
  have hdm := Int.mul_ediv_add_emod (num V) (num ds)
  have hr0 : 0 ≤ num V % num ds := Int.emod_nonneg _ (by omega)
  have hr1 : num V % num ds < num ds := Int.emod_lt_of_pos _ hvp
  have hbig : num ds < 4294967296 ^ (m + 2 + 1) := by
    have h1 := num_lt hwd
    rw [hdl] at h1
    have h2 := pow_pos' (m + 2)
    rw [Int.pow_succ _ (m + 2)]
    omega
  go_enter Tryz.func111, Tryz.ntmps111
  go_wp2_with fail
  refine HE.out.mono ?_
  rintro e w1 ⟨q, rfl, ⟨q1, q2, q3, q4⟩, nn, rfl⟩
  have hB1 : Mid (w.drewN nn) g P V T := hB
  have hst1 : Stay g (w.drewN nn) (some ⟨bd, od, none⟩) ds := fun w' h => hst w' ((Only.refl g w).drewN nn |>.trans h)
  go_wp2_with fail
  refine (subProduct_any g i (m + 2) cap cd P V T ds _ q _ hP hV hwv hB1 (by omega) hdl hwd hst1 q3 (by omega)).mono ?_
  rintro e w2 ⟨b, V', rfl, b0, b1, hl', hwf', hnum, hB2, ho2⟩
  have HN := Lib.hid hnum; clear hnum
  have HDM := Lib.hid hdm; clear hdm
  have hlt' := num_lt hwf'
  have hge' := num_nonneg hwf'
  rw [hl'] at hlt'
  have hcase := wrap_case (X := 4294967296 ^ (m + 2 + 1)) HDM.out hr0 hr1 q1 q2 b0 b1 HN.out hge' hlt'
  rcases hcase with ⟨rfl, hq, hres⟩ | ⟨rfl, hq, hres⟩
  · have HQ := Lib.hid hq; clear hq
    have HR := Lib.hid hres; clear hres
    go_wp2
    go_ret
    refine ⟨V', by rw [← HQ.out]; rfl, hl', hwf', HR.out, hB2, ?_⟩
    exact (Only.refl g w).drewN nn |>.trans ho2
  · have HQ := Lib.hid hq; clear hq
    have HR := Lib.hid hres; clear hres
    have hq1 : 1 ≤ q := by rw [HQ.out]; omega
    have hst2 : Stay g w2 (some ⟨bd, od, none⟩) ds := fun w' h => hst1 w' (ho2.trans h)
    go_wp2_with fail
    refine (addWrapping_any g i (m + 2) cap cd P V' T ds _ w2 hP hl' hwf' hB2 (by omega) hdl hwd hst2).mono ?_
    rintro e w3 ⟨c, V2, rfl, cc0, hl2, hwf2, hn2, hB3, ho3⟩
    have HN2 := Lib.hid hn2; clear hn2
    go_wp2
    go_ret
    have hlt2 := num_lt hwf2
    have hge2 := num_nonneg hwf2
    rw [hl2] at hlt2
    refine ⟨V2, ?_, hl2, hwf2, ?_, hB3, ?_⟩
    · rw [show num V / num ds = q - 1 by rw [HQ.out]; omega]; rfl
    · have h2 := HN2.out
      rw [HR.out] at h2
      exact wrap_back cc0 hr0 (by omega) hge2 hlt2 (by omega)
    · exact ((Only.refl g w).drewN nn |>.trans ho2).trans ho3
end Go.Proofs.YthicfkeiggcjjaaGreatDoor
