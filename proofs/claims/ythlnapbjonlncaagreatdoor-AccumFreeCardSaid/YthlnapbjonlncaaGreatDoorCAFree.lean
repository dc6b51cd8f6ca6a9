/- AccumFree returns true, from what its callees do. -/
import Derived.Test.YthlnapbjonlncaaGreatDoorHh
namespace Go.Proofs.YthlnapbjonlncaaGreatDoor
open Go Go.RowKit

/-- what the pairs return, for the first two results and the verdict -/
theorem pairV_true (f t : Nat) : pairV f t true = .tuple #[.int .u64 (f : Int), .int .u64 (t : Int), .bool true] := rfl
theorem pairV_false (f t : Nat) : pairV f t false = .tuple #[.int .u64 0, .int .u64 0, .bool false] := rfl

set_option maxRecDepth 100000 in
set_option maxHeartbeats 8000000 in
theorem afree_any (a b : Nat) (ha : a < 18446744073709551616) (hb : b < 18446744073709551616) (w : World) (hT : Table w) (hT6 : Table64 w) :
    Calls Tryz.prog 3 #[.int .u64 (a : Int), .int .u64 (b : Int)] w fun e w' => e = .returned (.bool true) ∧ Ext w w' := by
  have AW := Lib.hid (fun W (hE : Ext w W) => aawake_any W (hT.below hE) (hT6.below hE))
  have HTT := Lib.hid (fun W (hE : Ext w W) => hT.below hE)
  have HT6 := Lib.hid (fun W (hE : Ext w W) => hT6.below hE)
  cases fa : finB a with
  | false =>
    have RA := Lib.hid (refFin_any a ha false fa w)
    clear fa
    go_enter Tryz.func3, Tryz.ntmps3
    go_wp2_with fail
    refine RA.out.mono ?_
    rintro e w1 ⟨rfl, rfl⟩
    go_wp2_with fail
    refine (AW.out _ (Ext.refl _)).mono ?_
    rintro e w1 ⟨rfl, h1⟩
    go_wp2
    go_ret
    exact ⟨rfl, h1⟩
  | true =>
    cases fb : finB b with
    | false =>
      have RA := Lib.hid (refFin_any a ha true fa w)
      have RB := Lib.hid (refFin_any b hb false fb w)
      clear fa fb
      go_enter Tryz.func3, Tryz.ntmps3
      go_wp2_with fail
      refine RA.out.mono ?_
      rintro e w1 ⟨rfl, rfl⟩
      go_wp2_with fail
      refine RB.out.mono ?_
      rintro e w1 ⟨rfl, rfl⟩
      go_wp2_with fail
      refine (AW.out _ (Ext.refl _)).mono ?_
      rintro e w1 ⟨rfl, h1⟩
      go_wp2
      go_ret
      exact ⟨rfl, h1⟩
    | true =>
      obtain ⟨s, hs⟩ : ∃ s, faddF a b 0 = s := ⟨_, rfl⟩
      obtain ⟨p, hp⟩ : ∃ p, fmulF a b 0 = p := ⟨_, rfl⟩
      obtain ⟨f1, f2⟩ := free_sum fa fb hb hs
      have f3 := free_mul (p := p) fa fb
      obtain ⟨t, ht⟩ : ∃ t, rest s (dadd (fdy a) (fdy b)) = t := ⟨_, rfl⟩
      obtain ⟨q, hq⟩ : ∃ q, rest p (dmul (fdy a) (fdy b)) = q := ⟨_, rfl⟩
      obtain ⟨ok, hok⟩ : ∃ ok, restB s (dadd (fdy a) (fdy b)) = ok := ⟨_, rfl⟩
      obtain ⟨is, his⟩ : ∃ is, restB p (dmul (fdy a) (fdy b)) = is := ⟨_, rfl⟩
      have hsl : s < 18446744073709551616 := by rw [← hs]; exact fadd_lt _ hb
      have hpl : p < 18446744073709551616 := by rw [← hp]; exact fmul_lt _
      have htl : t < 18446744073709551616 := by rw [← ht]; exact frdF_lt _ _
      have hql : q < 18446744073709551616 := by rw [← hq]; exact frdF_lt _ _
      have C1 := Lib.hid (fun W (hE : Ext w W) => twoSum_any a b ha hb W (hT.below hE) (hT6.below hE) s t ok hs ht hok)
      have C2 := Lib.hid (fun W (hE : Ext w W) => twoMul_any a b ha hb W (hT.below hE) (hT6.below hE) p q is hp hq his)
      rw [hok] at f1
      rw [ht] at f2
      rw [his, hq] at f3
      rw [← f1] at f2
      have HS := Lib.hid hs
      have HP := Lib.hid hp
      have hsm := fdy_small a
      obtain ⟨da, hda⟩ : ∃ d, fdy a = d := ⟨_, rfl⟩
      obtain ⟨db, hdb⟩ : ∃ d, fdy b = d := ⟨_, rfl⟩
      obtain ⟨ds, hds⟩ : ∃ d, fdy s = d := ⟨_, rfl⟩
      obtain ⟨dt, hdt⟩ : ∃ d, fdy t = d := ⟨_, rfl⟩
      obtain ⟨dp, hdp⟩ : ∃ d, fdy p = d := ⟨_, rfl⟩
      obtain ⟨dq, hdq⟩ : ∃ d, fdy q = d := ⟨_, rfl⟩
      rw [hda, hdb, hds, hdt] at f2
      rw [hda, hdb, hdp, hdq] at f3
      rw [hda] at hsm
      have CA := Lib.hid (fun W (hE : Ext w W) => fof_at (f := a) ha hda W (hT6.below hE))
      have CB := Lib.hid (fun W (hE : Ext w W) => fof_at (f := b) hb hdb W (hT6.below hE))
      have CS := Lib.hid (fun W (hE : Ext w W) => fof_at (f := s) hsl hds W (hT6.below hE))
      have CT := Lib.hid (fun W (hE : Ext w W) => fof_at (f := t) htl hdt W (hT6.below hE))
      have CP := Lib.hid (fun W (hE : Ext w W) => fof_at (f := p) hpl hdp W (hT6.below hE))
      have CQ := Lib.hid (fun W (hE : Ext w W) => fof_at (f := q) hql hdq W (hT6.below hE))
      have RA := Lib.hid (refFin_any a ha true fa w)
      have RB := Lib.hid (refFin_any b hb true fb w)
      have FS : ∀ W, Calls Tryz.prog 11 #[.int .u64 (s : Int)] W fun e w' => e = .returned (.bool ok) ∧ W = w' := fun W => by rw [f1]; exact isFinite_any s hsl W
      have FS := Lib.hid FS
      have F2 := Lib.hid f2
      have F3 := Lib.hid f3
      have HSM := Lib.hid hsm
      have AF := Lib.hid (fun W => addF_at (mode := 0) ha hb HS.out W)
      have MF := Lib.hid (fun W => mulF_at (mode := 0) ha hb HP.out W)
      clear f1 f2 f3 hs hp ht hq hok his hda hdb hds hdt hdp hdq hsm fa fb hT hT6 hsl hpl htl hql ha hb
      go_enter Tryz.func3, Tryz.ntmps3
      go_wp2_with fail
      refine RA.out.mono ?_
      rintro e w1 ⟨rfl, rfl⟩
      go_wp2_with fail
      refine RB.out.mono ?_
      rintro e w1 ⟨rfl, rfl⟩
      go_wp2_with fail
      refine (C1.out _ (Ext.refl _)).mono ?_
      rintro e w1 ⟨rfl, h1⟩
      cases ok
      · rw [pairV_false]
        cases is
        · go_wp2_with fail
          refine (AF.out _).mono ?_
          rintro e w2 ⟨rfl, hw2⟩
          have h2 := Ext.trans h1 hw2
          go_wp2_with fail
          refine (FS.out _).mono ?_
          rintro e w2' ⟨rfl, rfl⟩
          go_wp2_with fail
          refine (C2.out _ h2).mono ?_
          rintro e w3 ⟨rfl, hw3⟩
          have h3 := Ext.trans h2 hw3
          rw [pairV_false]
          go_wp2_with fail
          refine (AW.out _ h3).mono ?_
          rintro e w4 ⟨rfl, hw4⟩
          have h4 := Ext.trans h3 hw4
          go_wp2
          go_ret
          exact ⟨rfl, h4⟩
        · go_wp2_with fail
          refine (AF.out _).mono ?_
          rintro e w2 ⟨rfl, hw2⟩
          have h2 := Ext.trans h1 hw2
          go_wp2_with fail
          refine (FS.out _).mono ?_
          rintro e w2' ⟨rfl, rfl⟩
          go_wp2_with fail
          refine (C2.out _ h2).mono ?_
          rintro e w3 ⟨rfl, hw3⟩
          have h3 := Ext.trans h2 hw3
          rw [pairV_true]
          go_wp2_with fail
          refine (MF.out _).mono ?_
          rintro e w4 ⟨rfl, hw4⟩
          have h4 := Ext.trans h3 hw4
          go_wp2_with fail
          refine (CP.out _ h4).mono ?_
          rintro e w5 ⟨v1, rfl, hv1, hw5⟩
          have h5 := Ext.trans h4 hw5
          go_wp2_with fail
          refine (CQ.out _ h5).mono ?_
          rintro e w6 ⟨v2, rfl, hv2, hw6⟩
          have h6 := Ext.trans h5 hw6
          have hv1 := hv1.ext hw6
          go_wp2_with fail
          refine (dadd_any _ _ _ _ _ hv1.dg hv2.dg (HTT.out _ h6)).mono ?_
          rintro e w7 ⟨v3, rfl, hv3, hw7⟩
          have h7 := Ext.trans h6 hw7
          rw [F3.out (by simp)] at hv3
          go_wp2_with fail
          refine (CA.out _ h7).mono ?_
          rintro e w8 ⟨v4, rfl, hv4, hw8⟩
          have h8 := Ext.trans h7 hw8
          go_wp2_with fail
          refine (CB.out _ h8).mono ?_
          rintro e w9 ⟨v5, rfl, hv5, hw9⟩
          have h9 := Ext.trans h8 hw9
          have hv4 := hv4.ext hw9
          have hv3 := (hv3.ext hw8).ext hw9
          go_wp2_with fail
          refine (dmul_any _ _ _ _ _ hv4.dg hv5.dg (HTT.out _ h9) (Or.inl HSM.out)).mono ?_
          rintro e w10 ⟨v6, rfl, hv6, hw10⟩
          have h10 := Ext.trans h9 hw10
          have hv3 := hv3.ext hw10
          go_wp2_with fail
          refine (kitDyad_same _ _ _ _ hv3 hv6).mono ?_
          rintro e w11 ⟨rfl, hw11⟩
          have h11 := Ext.trans h10 hw11
          go_wp2_with fail
          refine (AW.out _ h11).mono ?_
          rintro e w12 ⟨rfl, hw12⟩
          have h12 := Ext.trans h11 hw12
          go_wp2
          go_ret
          exact ⟨rfl, h12⟩
      · rw [pairV_true]
        cases is
        · go_wp2_with fail
          refine (AF.out _).mono ?_
          rintro e w2 ⟨rfl, hw2⟩
          have h2 := Ext.trans h1 hw2
          go_wp2_with fail
          refine (FS.out _).mono ?_
          rintro e w2' ⟨rfl, rfl⟩
          go_wp2_with fail
          refine (CS.out _ h2).mono ?_
          rintro e w3 ⟨v1, rfl, hv1, hw3⟩
          have h3 := Ext.trans h2 hw3
          go_wp2_with fail
          refine (CT.out _ h3).mono ?_
          rintro e w4 ⟨v2, rfl, hv2, hw4⟩
          have h4 := Ext.trans h3 hw4
          have hv1 := hv1.ext hw4
          go_wp2_with fail
          refine (dadd_any _ _ _ _ _ hv1.dg hv2.dg (HTT.out _ h4)).mono ?_
          rintro e w5 ⟨v3, rfl, hv3, hw5⟩
          have h5 := Ext.trans h4 hw5
          rw [F2.out (by simp)] at hv3
          go_wp2_with fail
          refine (CA.out _ h5).mono ?_
          rintro e w6 ⟨v4, rfl, hv4, hw6⟩
          have h6 := Ext.trans h5 hw6
          go_wp2_with fail
          refine (CB.out _ h6).mono ?_
          rintro e w7 ⟨v5, rfl, hv5, hw7⟩
          have h7 := Ext.trans h6 hw7
          have hv4 := hv4.ext hw7
          have hv3 := (hv3.ext hw6).ext hw7
          go_wp2_with fail
          refine (dadd_any _ _ _ _ _ hv4.dg hv5.dg (HTT.out _ h7)).mono ?_
          rintro e w8 ⟨v6, rfl, hv6, hw8⟩
          have h8 := Ext.trans h7 hw8
          have hv3 := hv3.ext hw8
          go_wp2_with fail
          refine (kitDyad_same _ _ _ _ hv3 hv6).mono ?_
          rintro e w9 ⟨rfl, hw9⟩
          have h9 := Ext.trans h8 hw9
          go_wp2_with fail
          refine (C2.out _ h9).mono ?_
          rintro e w10 ⟨rfl, hw10⟩
          have h10 := Ext.trans h9 hw10
          rw [pairV_false]
          go_wp2_with fail
          refine (AW.out _ h10).mono ?_
          rintro e w11 ⟨rfl, hw11⟩
          have h11 := Ext.trans h10 hw11
          go_wp2
          go_ret
          exact ⟨rfl, h11⟩
        · go_wp2_with fail
          refine (AF.out _).mono ?_
          rintro e w2 ⟨rfl, hw2⟩
          have h2 := Ext.trans h1 hw2
          go_wp2_with fail
          refine (FS.out _).mono ?_
          rintro e w2' ⟨rfl, rfl⟩
          go_wp2_with fail
          refine (CS.out _ h2).mono ?_
          rintro e w3 ⟨v1, rfl, hv1, hw3⟩
          have h3 := Ext.trans h2 hw3
          go_wp2_with fail
          refine (CT.out _ h3).mono ?_
          rintro e w4 ⟨v2, rfl, hv2, hw4⟩
          have h4 := Ext.trans h3 hw4
          have hv1 := hv1.ext hw4
          go_wp2_with fail
          refine (dadd_any _ _ _ _ _ hv1.dg hv2.dg (HTT.out _ h4)).mono ?_
          rintro e w5 ⟨v3, rfl, hv3, hw5⟩
          have h5 := Ext.trans h4 hw5
          rw [F2.out (by simp)] at hv3
          go_wp2_with fail
          refine (CA.out _ h5).mono ?_
          rintro e w6 ⟨v4, rfl, hv4, hw6⟩
          have h6 := Ext.trans h5 hw6
          go_wp2_with fail
          refine (CB.out _ h6).mono ?_
          rintro e w7 ⟨v5, rfl, hv5, hw7⟩
          have h7 := Ext.trans h6 hw7
          have hv4 := hv4.ext hw7
          have hv3 := (hv3.ext hw6).ext hw7
          go_wp2_with fail
          refine (dadd_any _ _ _ _ _ hv4.dg hv5.dg (HTT.out _ h7)).mono ?_
          rintro e w8 ⟨v6, rfl, hv6, hw8⟩
          have h8 := Ext.trans h7 hw8
          have hv3 := hv3.ext hw8
          go_wp2_with fail
          refine (kitDyad_same _ _ _ _ hv3 hv6).mono ?_
          rintro e w9 ⟨rfl, hw9⟩
          have h9 := Ext.trans h8 hw9
          go_wp2_with fail
          refine (C2.out _ h9).mono ?_
          rintro e w10 ⟨rfl, hw10⟩
          have h10 := Ext.trans h9 hw10
          rw [pairV_true]
          go_wp2_with fail
          refine (MF.out _).mono ?_
          rintro e w11 ⟨rfl, hw11⟩
          have h11 := Ext.trans h10 hw11
          go_wp2_with fail
          refine (CP.out _ h11).mono ?_
          rintro e w12 ⟨v1, rfl, hv1, hw12⟩
          have h12 := Ext.trans h11 hw12
          go_wp2_with fail
          refine (CQ.out _ h12).mono ?_
          rintro e w13 ⟨v2, rfl, hv2, hw13⟩
          have h13 := Ext.trans h12 hw13
          have hv1 := hv1.ext hw13
          go_wp2_with fail
          refine (dadd_any _ _ _ _ _ hv1.dg hv2.dg (HTT.out _ h13)).mono ?_
          rintro e w14 ⟨v3, rfl, hv3, hw14⟩
          have h14 := Ext.trans h13 hw14
          rw [F3.out (by simp)] at hv3
          go_wp2_with fail
          refine (CA.out _ h14).mono ?_
          rintro e w15 ⟨v4, rfl, hv4, hw15⟩
          have h15 := Ext.trans h14 hw15
          go_wp2_with fail
          refine (CB.out _ h15).mono ?_
          rintro e w16 ⟨v5, rfl, hv5, hw16⟩
          have h16 := Ext.trans h15 hw16
          have hv4 := hv4.ext hw16
          have hv3 := (hv3.ext hw15).ext hw16
          go_wp2_with fail
          refine (dmul_any _ _ _ _ _ hv4.dg hv5.dg (HTT.out _ h16) (Or.inl HSM.out)).mono ?_
          rintro e w17 ⟨v6, rfl, hv6, hw17⟩
          have h17 := Ext.trans h16 hw17
          have hv3 := hv3.ext hw17
          go_wp2_with fail
          refine (kitDyad_same _ _ _ _ hv3 hv6).mono ?_
          rintro e w18 ⟨rfl, hw18⟩
          have h18 := Ext.trans h17 hw18
          go_wp2_with fail
          refine (AW.out _ h18).mono ?_
          rintro e w19 ⟨rfl, hw19⟩
          have h19 := Ext.trans h18 hw19
          go_wp2
          go_ret
          exact ⟨rfl, h19⟩

theorem afree_int (a b : Int) (a0 : 0 ≤ a) (a1 : a < 18446744073709551616) (b0 : 0 ≤ b) (b1 : b < 18446744073709551616) (w : World) (hT : Table w) (hT6 : Table64 w) :
    Calls Tryz.prog 3 #[.int .u64 a, .int .u64 b] w fun e w' => e = .returned (.bool true) ∧ Ext w w' := by
  obtain ⟨x, rfl⟩ := Int.eq_ofNat_of_zero_le a0
  obtain ⟨y, rfl⟩ := Int.eq_ofNat_of_zero_le b0
  exact afree_any x y (by omega) (by omega) w hT hT6
end Go.Proofs.YthlnapbjonlncaaGreatDoor
