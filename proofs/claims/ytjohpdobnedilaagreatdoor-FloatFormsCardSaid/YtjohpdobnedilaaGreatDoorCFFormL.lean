/- FloatForms returns true, from what its callees do. -/
import Derived.Test.YtjohpdobnedilaaGreatDoorCFForm
import Derived.Test.YtjohpdobnedilaaGreatDoorCRefForm
import Derived.Test.YtjohpdobnedilaaGreatDoorHf
import Derived.Test.YtjohpdobnedilaaGreatDoorGn
namespace Go.Proofs.YtjohpdobnedilaaGreatDoor
open Go Go.RowKit

theorem fcmp_ex (a b : Nat) : ∃ s ok, FcmpOut a b s ok := by
  cases ha : nanB a
  · cases hb : nanB b
    · exact ⟨_, _, fcmp_num ha hb rfl⟩
    · exact ⟨_, _, fcmp_nan (Or.inr hb)⟩
  · exact ⟨_, _, fcmp_nan (Or.inl ha)⟩

set_option maxRecDepth 100000 in
set_option maxHeartbeats 4000000 in
theorem fforms_any (a b : Nat) (n mode : Int) (ha : a < 18446744073709551616) (hb : b < 18446744073709551616) (n0 : -9223372036854775808 ≤ n) (n1 : n ≤ 9223372036854775807) (w : World) (hT : Table w) (hT6 : Table64 w) :
    Calls Tryz.prog 4 #[.int .u64 (a : Int), .int .u64 (b : Int), .int .i64 n, .int .i64 mode] w fun e w' => e = .returned (.bool true) ∧ Ext w w' := by
  have AW := Lib.hid (fun W (hE : Ext w W) => fawake_any W (hT.below hE))
  obtain ⟨c, ok, hc⟩ := fcmp_ex a b
  obtain ⟨k, may, hk⟩ : ∃ k may, fexpF a = (k, may) := ⟨_, _, rfl⟩
  have C1 := Lib.hid (fcmp_any a b ha hb c ok hc w)
  have C2 := Lib.hid (fun W => refFCmp_any a b ha hb c ok hc W)
  have E1 := Lib.hid (fun W => fexponent_any a ha W k may hk)
  have E2 := Lib.hid (fun W (hE : Ext w W) => refExponent_any a ha W k may hk (hT.below hE))
  have K1 := Lib.hid (fun W => kind_any a ha W)
  have K2 := Lib.hid (fun W => refKind_any a ha W)
  have F1 := Lib.hid (fun W => isFinite_any a ha W)
  have F2 := Lib.hid (fun W => refFin_any a ha _ rfl W)
  have N1 := Lib.hid (fun W => negF_any a ha W)
  have N2 := Lib.hid (fun W => refNegF_any a ha W)
  have A1 := Lib.hid (fun W => absF_any a ha W)
  have A2 := Lib.hid (fun W => refAbsF_any a ha W)
  have U1 := Lib.hid (fun W => upF_any a ha W)
  have U2 := Lib.hid (fun W => refUpF_any a ha W)
  have D1 := Lib.hid (fun W => downF_any a ha W)
  have D2 := Lib.hid (fun W => refDownF_any a ha W)
  have O1 := Lib.hid (fun W (hE : Ext w W) => fof_any a ha W (hT6.below hE))
  have O2 := Lib.hid (fun W (hE : Ext w W) => refOf_any a ha W (hT.below hE))
  have I1 := Lib.hid (fun W (hE : Ext w W) => ffromInt_any n mode W n0 n1 (hT.below hE))
  have I2 := Lib.hid (fun W (hE : Ext w W) => refFFromInt_any n mode W n0 n1 (hT.below hE))
  obtain ⟨R, hR⟩ : ∃ R, fscaleF a n mode = R := ⟨_, rfl⟩
  have S1 := Lib.hid (fun W => fscale_any a ha n mode W R hR)
  have S2 := Lib.hid (fun W (hE : Ext w W) => refScale_any a ha n mode W R hR (hT.below hE))
  generalize fkind a = kd at *
  generalize finB a = bf at *
  generalize fnegF a = xn at *
  generalize fabsF a = xa at *
  generalize fupF a = xu at *
  generalize fdownF a = xd at *
  generalize fdy a = d at *
  generalize frdF (dmk n 0) mode = xi at *
  clear hc hk hR hT hT6 ha hb n0 n1
  go_enter Tryz.func4, Tryz.ntmps4
  go_wp2_with fail
  refine C1.out.mono ?_
  rintro e w1 ⟨rfl, h1⟩
  go_wp2_with fail
  refine (C2.out _).mono ?_
  rintro e w2 ⟨rfl, hw2⟩
  have h2 := Ext.trans h1 hw2
  go_wp2_with fail
  refine (E1.out _).mono ?_
  rintro e w3 ⟨rfl, hw3⟩
  have h3 := Ext.trans h2 hw3
  go_wp2_with fail
  refine (E2.out _ h3).mono ?_
  rintro e w4 ⟨rfl, hw4⟩
  have h4 := Ext.trans h3 hw4
  go_wp2_with fail
  refine (K1.out _).mono ?_
  rintro e wx ⟨rfl, rfl⟩
  go_wp2_with fail
  refine (K2.out _).mono ?_
  rintro e wx ⟨rfl, rfl⟩
  go_wp2_with fail
  refine (F1.out _).mono ?_
  rintro e wx ⟨rfl, rfl⟩
  go_wp2_with fail
  refine (F2.out _).mono ?_
  rintro e wx ⟨rfl, rfl⟩
  go_wp2_with fail
  refine (N1.out _).mono ?_
  rintro e wx ⟨rfl, rfl⟩
  go_wp2_with fail
  refine (N2.out _).mono ?_
  rintro e wx ⟨rfl, rfl⟩
  go_wp2_with fail
  refine (A1.out _).mono ?_
  rintro e wx ⟨rfl, rfl⟩
  go_wp2_with fail
  refine (A2.out _).mono ?_
  rintro e wx ⟨rfl, rfl⟩
  go_wp2_with fail
  refine (O1.out _ h4).mono ?_
  rintro e w5 ⟨v1, rfl, hv1, hw5⟩
  have h5 := Ext.trans h4 hw5
  go_wp2_with fail
  refine (O2.out _ h5).mono ?_
  rintro e w6 ⟨v2, rfl, hv2, hw6⟩
  have h6 := Ext.trans h5 hw6
  have hv1 := hv1.ext hw6
  go_wp2_with fail
  refine (kitDyad_same _ _ _ _ hv1 hv2).mono ?_
  rintro e w7 ⟨rfl, hw7⟩
  have h7 := Ext.trans h6 hw7
  go_wp2_with fail
  refine (U1.out _).mono ?_
  rintro e wx ⟨rfl, rfl⟩
  go_wp2_with fail
  refine (U2.out _).mono ?_
  rintro e wx ⟨rfl, rfl⟩
  go_wp2_with fail
  refine (D1.out _).mono ?_
  rintro e wx ⟨rfl, rfl⟩
  go_wp2_with fail
  refine (D2.out _).mono ?_
  rintro e wx ⟨rfl, rfl⟩
  go_wp2_with fail
  refine (I1.out _ h7).mono ?_
  rintro e w8 ⟨rfl, hw8⟩
  have h8 := Ext.trans h7 hw8
  go_wp2_with fail
  refine (I2.out _ h8).mono ?_
  rintro e w9 ⟨rfl, hw9⟩
  have h9 := Ext.trans h8 hw9
  go_wp2_with fail
  refine (S1.out _).mono ?_
  rintro e w10 ⟨rfl, hw10⟩
  have h10 := Ext.trans h9 hw10
  go_wp2_with fail
  refine (S2.out _ h10).mono ?_
  rintro e w11 ⟨rfl, hw11⟩
  have h11 := Ext.trans h10 hw11
  go_wp2_with fail
  refine (AW.out _ h11).mono ?_
  rintro e w12 ⟨rfl, hw12⟩
  have h12 := Ext.trans h11 hw12
  have HE := Lib.hid h12
  go_wp2
  go_ret
  exact ⟨rfl, HE.out⟩

theorem fforms_int (a b n mode : Int) (a0 : 0 ≤ a) (a1 : a < 18446744073709551616) (b0 : 0 ≤ b) (b1 : b < 18446744073709551616) (n0 : -9223372036854775808 ≤ n) (n1 : n ≤ 9223372036854775807) (w : World) (hT : Table w) (hT6 : Table64 w) :
    Calls Tryz.prog 4 #[.int .u64 a, .int .u64 b, .int .i64 n, .int .i64 mode] w fun e w' => e = .returned (.bool true) ∧ Ext w w' := by
  obtain ⟨x, rfl⟩ := Int.eq_ofNat_of_zero_le a0
  obtain ⟨y, rfl⟩ := Int.eq_ofNat_of_zero_le b0
  exact fforms_any x y n mode (by omega) (by omega) n0 n1 w hT hT6
end Go.Proofs.YtjohpdobnedilaaGreatDoor
