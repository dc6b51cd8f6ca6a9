import Derived.Test.YtkomhemjodbkpaaGreatDoorIExLawU21
import Derived.Test.YtkomhemjodbkpaaGreatDoorIExLawU28
import Derived.Test.YtkomhemjodbkpaaGreatDoorIExLawU25
import Derived.Test.YtkomhemjodbkpaaGreatDoorIExLawU10
import Derived.Test.YtkomhemjodbkpaaGreatDoorIExLawU17
namespace Go.Proofs.YtkomhemjodbkpaaGreatDoor
open Go.RowKit
set_option maxRecDepth 100000 in
theorem refAll_any (w:World):Calls Tryz.prog 41 #[] w fun e w'=>e=.returned (.agg #[.int .u64 18442240474082181120,.int .u64 9218868437227405312])∧Ext w w':=by
  go_enter Tryz.func41,Tryz.ntmps41
  go_wp2
  refine bodyPost_ret (v:=.agg #[.int .u64 18442240474082181120,.int .u64 9218868437227405312]) (by simp [results,Tryz.results41,go_sem]) rfl ⟨rfl,?_⟩
  exact (Below.refl _ w).alloc (Nat.le_refl _) _
set_option maxRecDepth 100000 in
set_option maxHeartbeats 8000000 in
theorem refAdd_no (a b c d:Nat) (ha:a<18446744073709551616) (hb:b<18446744073709551616) (hc:c<18446744073709551616) (hd:d<18446744073709551616) (h:validF a b=false∨validF c d=false) (w:World) :
    Calls Tryz.prog 12 #[.agg #[.int .u64 (a:Int),.int .u64 (b:Int)],.agg #[.int .u64 (c:Int),.int .u64 (d:Int)]] w fun e w'=>e=.returned (.agg #[.int .u64 18442240474082181120,.int .u64 9218868437227405312])∧Ext w w':=by
  obtain ⟨p,hp⟩:∃ p,validF a b=p:=⟨_,rfl⟩
  obtain ⟨q,hq⟩:∃ q,validF c d=q:=⟨_,rfl⟩
  rw [hp,hq] at h
  have C1:=Lib.hid (fun w=>refValid_any a b ha hb p hp w)
  have C2:=Lib.hid (fun w=>refValid_any c d hc hd q hq w)
  clear hp hq ha hb hc hd
  go_enter Tryz.func12,Tryz.ntmps12
  go_wp2_with fail
  obtain ⟨W,hW,hB,hx,hy,hbx,hsz⟩:=ibox_three w a b c d 0 0
  rw [←hW]
  clear hW
  generalize hBe:w.heap.size=B at *
  have HBe:=Lib.hid hBe
  have HB:Hid (Below B w W):=Lib.hid (by rw [←hBe];exact hB)
  clear hBe hB hsz
  have c0:=hx.c0
  have c1:=hx.c1
  have c2:=hy.c0
  have c3:=hy.c1
  go_wp2_with fail
  refine (C1.out _).mono ?_
  rintro r w1 ⟨rfl,hE⟩
  have HB:=Lib.hid (HB.out.trans (Below.mono hE (Nat.le_of_lt hx.lt)))
  have hx:=hx.below hE
  have hy:=hy.below hE
  have hbx:=hbx.below hE
  clear c0 c1 c2 c3 hE
  have c0:=hx.c0
  have c1:=hx.c1
  have c2:=hy.c0
  have c3:=hy.c1
  cases p with
  | false =>
    go_wp2_with fail
    refine (refAll_any _).mono ?_
    rintro r w9 ⟨rfl,hE⟩
    have hbx:=hbx.below hE
    have HB:=Lib.hid (HB.out.trans (Below.mono hE (Nat.le_of_lt hx.lt)))
    clear hE
    have q0:=hbx.c0
    have q1:=hbx.c1
    have f0:=hbx.f 0
    have f1:=hbx.f 1
    have z:=hbx.stored 18442240474082181120 9218868437227405312
    have z0:=z.c0
    have z1:=z.c1
    have HZ:=Lib.hid (HB.out.trans ((only_iset2 w9 (B+1+1) (.int .u64 18442240474082181120) (.int .u64 9218868437227405312)).below (by omega)))
    clear z
    go_wp2
    refine bodyPost_ret (v:=.agg #[.int .u64 18442240474082181120,.int .u64 9218868437227405312]) (by simp [results,Tryz.results12,go_sem,z0,z1]) rfl ⟨rfl,?_⟩
    show Below _ _ _
    rw [HBe.out]
    exact HZ.out
  | true =>
    go_wp2_with fail
    refine (C2.out _).mono ?_
    rintro r w2 ⟨rfl,hE⟩
    have HB:=Lib.hid (HB.out.trans (Below.mono hE (Nat.le_of_lt hx.lt)))
    have hx:=hx.below hE
    have hy:=hy.below hE
    have hbx:=hbx.below hE
    clear c0 c1 c2 c3 hE
    have c0:=hx.c0
    have c1:=hx.c1
    have c2:=hy.c0
    have c3:=hy.c1
    cases q with
    | false =>
      go_wp2_with fail
      refine (refAll_any _).mono ?_
      rintro r w9 ⟨rfl,hE⟩
      have hbx:=hbx.below hE
      have HB:=Lib.hid (HB.out.trans (Below.mono hE (Nat.le_of_lt hx.lt)))
      clear hE
      have q0:=hbx.c0
      have q1:=hbx.c1
      have f0:=hbx.f 0
      have f1:=hbx.f 1
      have z:=hbx.stored 18442240474082181120 9218868437227405312
      have z0:=z.c0
      have z1:=z.c1
      have HZ:=Lib.hid (HB.out.trans ((only_iset2 w9 (B+1+1) (.int .u64 18442240474082181120) (.int .u64 9218868437227405312)).below (by omega)))
      clear z
      go_wp2
      refine bodyPost_ret (v:=.agg #[.int .u64 18442240474082181120,.int .u64 9218868437227405312]) (by simp [results,Tryz.results12,go_sem,z0,z1]) rfl ⟨rfl,?_⟩
      show Below _ _ _
      rw [HBe.out]
      exact HZ.out
    | true =>
      exact absurd h (by simp)
set_option maxRecDepth 100000 in
set_option maxHeartbeats 8000000 in
theorem refSub_no (a b c d:Nat) (ha:a<18446744073709551616) (hb:b<18446744073709551616) (hc:c<18446744073709551616) (hd:d<18446744073709551616) (h:validF a b=false∨validF c d=false) (w:World) :
    Calls Tryz.prog 14 #[.agg #[.int .u64 (a:Int),.int .u64 (b:Int)],.agg #[.int .u64 (c:Int),.int .u64 (d:Int)]] w fun e w'=>e=.returned (.agg #[.int .u64 18442240474082181120,.int .u64 9218868437227405312])∧Ext w w':=by
  obtain ⟨p,hp⟩:∃ p,validF a b=p:=⟨_,rfl⟩
  obtain ⟨q,hq⟩:∃ q,validF c d=q:=⟨_,rfl⟩
  rw [hp,hq] at h
  have C1:=Lib.hid (fun w=>refValid_any a b ha hb p hp w)
  have C2:=Lib.hid (fun w=>refValid_any c d hc hd q hq w)
  clear hp hq ha hb hc hd
  go_enter Tryz.func14,Tryz.ntmps14
  go_wp2_with fail
  obtain ⟨W,hW,hB,hx,hy,hbx,hsz⟩:=ibox_three w a b c d 0 0
  rw [←hW]
  clear hW
  generalize hBe:w.heap.size=B at *
  have HBe:=Lib.hid hBe
  have HB:Hid (Below B w W):=Lib.hid (by rw [←hBe];exact hB)
  clear hBe hB hsz
  have c0:=hx.c0
  have c1:=hx.c1
  have c2:=hy.c0
  have c3:=hy.c1
  go_wp2_with fail
  refine (C1.out _).mono ?_
  rintro r w1 ⟨rfl,hE⟩
  have HB:=Lib.hid (HB.out.trans (Below.mono hE (Nat.le_of_lt hx.lt)))
  have hx:=hx.below hE
  have hy:=hy.below hE
  have hbx:=hbx.below hE
  clear c0 c1 c2 c3 hE
  have c0:=hx.c0
  have c1:=hx.c1
  have c2:=hy.c0
  have c3:=hy.c1
  cases p with
  | false =>
    go_wp2_with fail
    refine (refAll_any _).mono ?_
    rintro r w9 ⟨rfl,hE⟩
    have hbx:=hbx.below hE
    have HB:=Lib.hid (HB.out.trans (Below.mono hE (Nat.le_of_lt hx.lt)))
    clear hE
    have q0:=hbx.c0
    have q1:=hbx.c1
    have f0:=hbx.f 0
    have f1:=hbx.f 1
    have z:=hbx.stored 18442240474082181120 9218868437227405312
    have z0:=z.c0
    have z1:=z.c1
    have HZ:=Lib.hid (HB.out.trans ((only_iset2 w9 (B+1+1) (.int .u64 18442240474082181120) (.int .u64 9218868437227405312)).below (by omega)))
    clear z
    go_wp2
    refine bodyPost_ret (v:=.agg #[.int .u64 18442240474082181120,.int .u64 9218868437227405312]) (by simp [results,Tryz.results14,go_sem,z0,z1]) rfl ⟨rfl,?_⟩
    show Below _ _ _
    rw [HBe.out]
    exact HZ.out
  | true =>
    go_wp2_with fail
    refine (C2.out _).mono ?_
    rintro r w2 ⟨rfl,hE⟩
    have HB:=Lib.hid (HB.out.trans (Below.mono hE (Nat.le_of_lt hx.lt)))
    have hx:=hx.below hE
    have hy:=hy.below hE
    have hbx:=hbx.below hE
    clear c0 c1 c2 c3 hE
    have c0:=hx.c0
    have c1:=hx.c1
    have c2:=hy.c0
    have c3:=hy.c1
    cases q with
    | false =>
      go_wp2_with fail
      refine (refAll_any _).mono ?_
      rintro r w9 ⟨rfl,hE⟩
      have hbx:=hbx.below hE
      have HB:=Lib.hid (HB.out.trans (Below.mono hE (Nat.le_of_lt hx.lt)))
      clear hE
      have q0:=hbx.c0
      have q1:=hbx.c1
      have f0:=hbx.f 0
      have f1:=hbx.f 1
      have z:=hbx.stored 18442240474082181120 9218868437227405312
      have z0:=z.c0
      have z1:=z.c1
      have HZ:=Lib.hid (HB.out.trans ((only_iset2 w9 (B+1+1) (.int .u64 18442240474082181120) (.int .u64 9218868437227405312)).below (by omega)))
      clear z
      go_wp2
      refine bodyPost_ret (v:=.agg #[.int .u64 18442240474082181120,.int .u64 9218868437227405312]) (by simp [results,Tryz.results14,go_sem,z0,z1]) rfl ⟨rfl,?_⟩
      show Below _ _ _
      rw [HBe.out]
      exact HZ.out
    | true =>
      exact absurd h (by simp)
set_option maxRecDepth 100000 in
set_option maxHeartbeats 8000000 in
theorem refMul_no (a b c d:Nat) (ha:a<18446744073709551616) (hb:b<18446744073709551616) (hc:c<18446744073709551616) (hd:d<18446744073709551616) (h:validF a b=false∨validF c d=false) (w:World) :
    Calls Tryz.prog 16 #[.agg #[.int .u64 (a:Int),.int .u64 (b:Int)],.agg #[.int .u64 (c:Int),.int .u64 (d:Int)]] w fun e w'=>e=.returned (.agg #[.int .u64 18442240474082181120,.int .u64 9218868437227405312])∧Ext w w':=by
  obtain ⟨p,hp⟩:∃ p,validF a b=p:=⟨_,rfl⟩
  obtain ⟨q,hq⟩:∃ q,validF c d=q:=⟨_,rfl⟩
  rw [hp,hq] at h
  have C1:=Lib.hid (fun w=>refValid_any a b ha hb p hp w)
  have C2:=Lib.hid (fun w=>refValid_any c d hc hd q hq w)
  clear hp hq ha hb hc hd
  go_enter Tryz.func16,Tryz.ntmps16
  go_wp2_with fail
  obtain ⟨W,hW,hB,hx,hy,hbx,hsz⟩:=ibox_three w a b c d 0 0
  rw [←hW]
  clear hW
  generalize hBe:w.heap.size=B at *
  have HBe:=Lib.hid hBe
  have HB:Hid (Below B w W):=Lib.hid (by rw [←hBe];exact hB)
  clear hBe hB hsz
  have c0:=hx.c0
  have c1:=hx.c1
  have c2:=hy.c0
  have c3:=hy.c1
  go_wp2_with fail
  refine (C1.out _).mono ?_
  rintro r w1 ⟨rfl,hE⟩
  have HB:=Lib.hid (HB.out.trans (Below.mono hE (Nat.le_of_lt hx.lt)))
  have hx:=hx.below hE
  have hy:=hy.below hE
  have hbx:=hbx.below hE
  clear c0 c1 c2 c3 hE
  have c0:=hx.c0
  have c1:=hx.c1
  have c2:=hy.c0
  have c3:=hy.c1
  cases p with
  | false =>
    go_wp2_with fail
    refine (refAll_any _).mono ?_
    rintro r w9 ⟨rfl,hE⟩
    have hbx:=hbx.below hE
    have HB:=Lib.hid (HB.out.trans (Below.mono hE (Nat.le_of_lt hx.lt)))
    clear hE
    have q0:=hbx.c0
    have q1:=hbx.c1
    have f0:=hbx.f 0
    have f1:=hbx.f 1
    have z:=hbx.stored 18442240474082181120 9218868437227405312
    have z0:=z.c0
    have z1:=z.c1
    have HZ:=Lib.hid (HB.out.trans ((only_iset2 w9 (B+1+1) (.int .u64 18442240474082181120) (.int .u64 9218868437227405312)).below (by omega)))
    clear z
    go_wp2
    refine bodyPost_ret (v:=.agg #[.int .u64 18442240474082181120,.int .u64 9218868437227405312]) (by simp [results,Tryz.results16,go_sem,z0,z1]) rfl ⟨rfl,?_⟩
    show Below _ _ _
    rw [HBe.out]
    exact HZ.out
  | true =>
    go_wp2_with fail
    refine (C2.out _).mono ?_
    rintro r w2 ⟨rfl,hE⟩
    have HB:=Lib.hid (HB.out.trans (Below.mono hE (Nat.le_of_lt hx.lt)))
    have hx:=hx.below hE
    have hy:=hy.below hE
    have hbx:=hbx.below hE
    clear c0 c1 c2 c3 hE
    have c0:=hx.c0
    have c1:=hx.c1
    have c2:=hy.c0
    have c3:=hy.c1
    cases q with
    | false =>
      go_wp2_with fail
      refine (refAll_any _).mono ?_
      rintro r w9 ⟨rfl,hE⟩
      have hbx:=hbx.below hE
      have HB:=Lib.hid (HB.out.trans (Below.mono hE (Nat.le_of_lt hx.lt)))
      clear hE
      have q0:=hbx.c0
      have q1:=hbx.c1
      have f0:=hbx.f 0
      have f1:=hbx.f 1
      have z:=hbx.stored 18442240474082181120 9218868437227405312
      have z0:=z.c0
      have z1:=z.c1
      have HZ:=Lib.hid (HB.out.trans ((only_iset2 w9 (B+1+1) (.int .u64 18442240474082181120) (.int .u64 9218868437227405312)).below (by omega)))
      clear z
      go_wp2
      refine bodyPost_ret (v:=.agg #[.int .u64 18442240474082181120,.int .u64 9218868437227405312]) (by simp [results,Tryz.results16,go_sem,z0,z1]) rfl ⟨rfl,?_⟩
      show Below _ _ _
      rw [HBe.out]
      exact HZ.out
    | true =>
      exact absurd h (by simp)
set_option maxRecDepth 100000 in
set_option maxHeartbeats 8000000 in
theorem refDiv_no (a b c d:Nat) (ha:a<18446744073709551616) (hb:b<18446744073709551616) (hc:c<18446744073709551616) (hd:d<18446744073709551616) (h:validF a b=false∨validF c d=false) (w:World) :
    Calls Tryz.prog 18 #[.agg #[.int .u64 (a:Int),.int .u64 (b:Int)],.agg #[.int .u64 (c:Int),.int .u64 (d:Int)]] w fun e w'=>e=.returned (.agg #[.int .u64 18442240474082181120,.int .u64 9218868437227405312])∧Ext w w':=by
  obtain ⟨p,hp⟩:∃ p,validF a b=p:=⟨_,rfl⟩
  obtain ⟨q,hq⟩:∃ q,validF c d=q:=⟨_,rfl⟩
  rw [hp,hq] at h
  have C1:=Lib.hid (fun w=>refValid_any a b ha hb p hp w)
  have C2:=Lib.hid (fun w=>refValid_any c d hc hd q hq w)
  clear hp hq ha hb hc hd
  go_enter Tryz.func18,Tryz.ntmps18
  go_wp2_with fail
  obtain ⟨W,hW,hB,hx,hy,hbx,hsz⟩:=ibox_three w a b c d 0 0
  rw [←hW]
  clear hW
  generalize hBe:w.heap.size=B at *
  have HBe:=Lib.hid hBe
  have HB:Hid (Below B w W):=Lib.hid (by rw [←hBe];exact hB)
  clear hBe hB hsz
  have c0:=hx.c0
  have c1:=hx.c1
  have c2:=hy.c0
  have c3:=hy.c1
  go_wp2_with fail
  refine (C1.out _).mono ?_
  rintro r w1 ⟨rfl,hE⟩
  have HB:=Lib.hid (HB.out.trans (Below.mono hE (Nat.le_of_lt hx.lt)))
  have hx:=hx.below hE
  have hy:=hy.below hE
  have hbx:=hbx.below hE
  clear c0 c1 c2 c3 hE
  have c0:=hx.c0
  have c1:=hx.c1
  have c2:=hy.c0
  have c3:=hy.c1
  cases p with
  | false =>
    go_wp2_with fail
    refine (refAll_any _).mono ?_
    rintro r w9 ⟨rfl,hE⟩
    have hbx:=hbx.below hE
    have HB:=Lib.hid (HB.out.trans (Below.mono hE (Nat.le_of_lt hx.lt)))
    clear hE
    have q0:=hbx.c0
    have q1:=hbx.c1
    have f0:=hbx.f 0
    have f1:=hbx.f 1
    have z:=hbx.stored 18442240474082181120 9218868437227405312
    have z0:=z.c0
    have z1:=z.c1
    have HZ:=Lib.hid (HB.out.trans ((only_iset2 w9 (B+1+1) (.int .u64 18442240474082181120) (.int .u64 9218868437227405312)).below (by omega)))
    clear z
    go_wp2
    refine bodyPost_ret (v:=.agg #[.int .u64 18442240474082181120,.int .u64 9218868437227405312]) (by simp [results,Tryz.results18,go_sem,z0,z1]) rfl ⟨rfl,?_⟩
    show Below _ _ _
    rw [HBe.out]
    exact HZ.out
  | true =>
    go_wp2_with fail
    refine (C2.out _).mono ?_
    rintro r w2 ⟨rfl,hE⟩
    have HB:=Lib.hid (HB.out.trans (Below.mono hE (Nat.le_of_lt hx.lt)))
    have hx:=hx.below hE
    have hy:=hy.below hE
    have hbx:=hbx.below hE
    clear c0 c1 c2 c3 hE
    have c0:=hx.c0
    have c1:=hx.c1
    have c2:=hy.c0
    have c3:=hy.c1
    cases q with
    | false =>
      go_wp2_with fail
      refine (refAll_any _).mono ?_
      rintro r w9 ⟨rfl,hE⟩
      have hbx:=hbx.below hE
      have HB:=Lib.hid (HB.out.trans (Below.mono hE (Nat.le_of_lt hx.lt)))
      clear hE
      have q0:=hbx.c0
      have q1:=hbx.c1
      have f0:=hbx.f 0
      have f1:=hbx.f 1
      have z:=hbx.stored 18442240474082181120 9218868437227405312
      have z0:=z.c0
      have z1:=z.c1
      have HZ:=Lib.hid (HB.out.trans ((only_iset2 w9 (B+1+1) (.int .u64 18442240474082181120) (.int .u64 9218868437227405312)).below (by omega)))
      clear z
      go_wp2
      refine bodyPost_ret (v:=.agg #[.int .u64 18442240474082181120,.int .u64 9218868437227405312]) (by simp [results,Tryz.results18,go_sem,z0,z1]) rfl ⟨rfl,?_⟩
      show Below _ _ _
      rw [HBe.out]
      exact HZ.out
    | true =>
      exact absurd h (by simp)
set_option maxRecDepth 100000 in
set_option maxHeartbeats 8000000 in
theorem refHull_no (a b c d:Nat) (ha:a<18446744073709551616) (hb:b<18446744073709551616) (hc:c<18446744073709551616) (hd:d<18446744073709551616) (h:validF a b=false∨validF c d=false) (w:World) :
    Calls Tryz.prog 24 #[.agg #[.int .u64 (a:Int),.int .u64 (b:Int)],.agg #[.int .u64 (c:Int),.int .u64 (d:Int)]] w fun e w'=>e=.returned (.agg #[.int .u64 18442240474082181120,.int .u64 9218868437227405312])∧Ext w w':=by
  obtain ⟨p,hp⟩:∃ p,validF a b=p:=⟨_,rfl⟩
  obtain ⟨q,hq⟩:∃ q,validF c d=q:=⟨_,rfl⟩
  rw [hp,hq] at h
  have C1:=Lib.hid (fun w=>refValid_any a b ha hb p hp w)
  have C2:=Lib.hid (fun w=>refValid_any c d hc hd q hq w)
  clear hp hq ha hb hc hd
  go_enter Tryz.func24,Tryz.ntmps24
  go_wp2_with fail
  obtain ⟨W,hW,hB,hx,hy,hbx,hsz⟩:=ibox_three w a b c d 0 0
  rw [←hW]
  clear hW
  generalize hBe:w.heap.size=B at *
  have HBe:=Lib.hid hBe
  have HB:Hid (Below B w W):=Lib.hid (by rw [←hBe];exact hB)
  clear hBe hB hsz
  have c0:=hx.c0
  have c1:=hx.c1
  have c2:=hy.c0
  have c3:=hy.c1
  go_wp2_with fail
  refine (C1.out _).mono ?_
  rintro r w1 ⟨rfl,hE⟩
  have HB:=Lib.hid (HB.out.trans (Below.mono hE (Nat.le_of_lt hx.lt)))
  have hx:=hx.below hE
  have hy:=hy.below hE
  have hbx:=hbx.below hE
  clear c0 c1 c2 c3 hE
  have c0:=hx.c0
  have c1:=hx.c1
  have c2:=hy.c0
  have c3:=hy.c1
  cases p with
  | false =>
    go_wp2_with fail
    refine (refAll_any _).mono ?_
    rintro r w9 ⟨rfl,hE⟩
    have hbx:=hbx.below hE
    have HB:=Lib.hid (HB.out.trans (Below.mono hE (Nat.le_of_lt hx.lt)))
    clear hE
    have q0:=hbx.c0
    have q1:=hbx.c1
    have f0:=hbx.f 0
    have f1:=hbx.f 1
    have z:=hbx.stored 18442240474082181120 9218868437227405312
    have z0:=z.c0
    have z1:=z.c1
    have HZ:=Lib.hid (HB.out.trans ((only_iset2 w9 (B+1+1) (.int .u64 18442240474082181120) (.int .u64 9218868437227405312)).below (by omega)))
    clear z
    go_wp2
    refine bodyPost_ret (v:=.agg #[.int .u64 18442240474082181120,.int .u64 9218868437227405312]) (by simp [results,Tryz.results24,go_sem,z0,z1]) rfl ⟨rfl,?_⟩
    show Below _ _ _
    rw [HBe.out]
    exact HZ.out
  | true =>
    go_wp2_with fail
    refine (C2.out _).mono ?_
    rintro r w2 ⟨rfl,hE⟩
    have HB:=Lib.hid (HB.out.trans (Below.mono hE (Nat.le_of_lt hx.lt)))
    have hx:=hx.below hE
    have hy:=hy.below hE
    have hbx:=hbx.below hE
    clear c0 c1 c2 c3 hE
    have c0:=hx.c0
    have c1:=hx.c1
    have c2:=hy.c0
    have c3:=hy.c1
    cases q with
    | false =>
      go_wp2_with fail
      refine (refAll_any _).mono ?_
      rintro r w9 ⟨rfl,hE⟩
      have hbx:=hbx.below hE
      have HB:=Lib.hid (HB.out.trans (Below.mono hE (Nat.le_of_lt hx.lt)))
      clear hE
      have q0:=hbx.c0
      have q1:=hbx.c1
      have f0:=hbx.f 0
      have f1:=hbx.f 1
      have z:=hbx.stored 18442240474082181120 9218868437227405312
      have z0:=z.c0
      have z1:=z.c1
      have HZ:=Lib.hid (HB.out.trans ((only_iset2 w9 (B+1+1) (.int .u64 18442240474082181120) (.int .u64 9218868437227405312)).below (by omega)))
      clear z
      go_wp2
      refine bodyPost_ret (v:=.agg #[.int .u64 18442240474082181120,.int .u64 9218868437227405312]) (by simp [results,Tryz.results24,go_sem,z0,z1]) rfl ⟨rfl,?_⟩
      show Below _ _ _
      rw [HBe.out]
      exact HZ.out
    | true =>
      exact absurd h (by simp)
set_option maxRecDepth 100000 in
set_option maxHeartbeats 8000000 in
theorem refNeg_no (a b:Nat) (ha:a<18446744073709551616) (hb:b<18446744073709551616) (h:validF a b=false) (w:World) :
    Calls Tryz.prog 10 #[.agg #[.int .u64 (a:Int),.int .u64 (b:Int)]] w fun e w'=>e=.returned (.agg #[.int .u64 18442240474082181120,.int .u64 9218868437227405312])∧Ext w w':=by
  have C1:=Lib.hid (fun w=>refValid_any a b ha hb false h w)
  clear h ha hb
  go_enter Tryz.func10,Tryz.ntmps10
  go_wp2_with fail
  obtain ⟨W,hW,hB,hx,hbx,hsz⟩:=ibox_two w a b 0 0
  rw [←hW]
  clear hW
  generalize hBe:w.heap.size=B at *
  have HBe:=Lib.hid hBe
  have HB:Hid (Below B w W):=Lib.hid (by rw [←hBe];exact hB)
  clear hBe hB hsz
  have c0:=hx.c0
  have c1:=hx.c1
  go_wp2_with fail
  refine (C1.out _).mono ?_
  rintro r w1 ⟨rfl,hE⟩
  have HB:=Lib.hid (HB.out.trans (Below.mono hE (Nat.le_of_lt hx.lt)))
  have hx:=hx.below hE
  have hbx:=hbx.below hE
  clear c0 c1 hE
  have c0:=hx.c0
  have c1:=hx.c1
  go_wp2_with fail
  refine (refAll_any _).mono ?_
  rintro r w9 ⟨rfl,hE⟩
  have hbx:=hbx.below hE
  have HB:=Lib.hid (HB.out.trans (Below.mono hE (Nat.le_of_lt hx.lt)))
  clear hE
  have q0:=hbx.c0
  have q1:=hbx.c1
  have f0:=hbx.f 0
  have f1:=hbx.f 1
  have z:=hbx.stored 18442240474082181120 9218868437227405312
  have z0:=z.c0
  have z1:=z.c1
  have HZ:=Lib.hid (HB.out.trans ((only_iset2 w9 (B+1) (.int .u64 18442240474082181120) (.int .u64 9218868437227405312)).below (by omega)))
  clear z
  go_wp2
  refine bodyPost_ret (v:=.agg #[.int .u64 18442240474082181120,.int .u64 9218868437227405312]) (by simp [results,Tryz.results10,go_sem,z0,z1]) rfl ⟨rfl,?_⟩
  show Below _ _ _
  rw [HBe.out]
  exact HZ.out
set_option maxRecDepth 100000 in
set_option maxHeartbeats 8000000 in
theorem refSqr_no (a b:Nat) (ha:a<18446744073709551616) (hb:b<18446744073709551616) (h:validF a b=false) (w:World) :
    Calls Tryz.prog 20 #[.agg #[.int .u64 (a:Int),.int .u64 (b:Int)]] w fun e w'=>e=.returned (.agg #[.int .u64 18442240474082181120,.int .u64 9218868437227405312])∧Ext w w':=by
  have C1:=Lib.hid (fun w=>refValid_any a b ha hb false h w)
  clear h ha hb
  go_enter Tryz.func20,Tryz.ntmps20
  go_wp2_with fail
  obtain ⟨W,hW,hB,hx,hbx,hsz⟩:=ibox_two w a b 0 0
  rw [←hW]
  clear hW
  generalize hBe:w.heap.size=B at *
  have HBe:=Lib.hid hBe
  have HB:Hid (Below B w W):=Lib.hid (by rw [←hBe];exact hB)
  clear hBe hB hsz
  have c0:=hx.c0
  have c1:=hx.c1
  go_wp2_with fail
  refine (C1.out _).mono ?_
  rintro r w1 ⟨rfl,hE⟩
  have HB:=Lib.hid (HB.out.trans (Below.mono hE (Nat.le_of_lt hx.lt)))
  have hx:=hx.below hE
  have hbx:=hbx.below hE
  clear c0 c1 hE
  have c0:=hx.c0
  have c1:=hx.c1
  go_wp2_with fail
  refine (refAll_any _).mono ?_
  rintro r w9 ⟨rfl,hE⟩
  have hbx:=hbx.below hE
  have HB:=Lib.hid (HB.out.trans (Below.mono hE (Nat.le_of_lt hx.lt)))
  clear hE
  have q0:=hbx.c0
  have q1:=hbx.c1
  have f0:=hbx.f 0
  have f1:=hbx.f 1
  have z:=hbx.stored 18442240474082181120 9218868437227405312
  have z0:=z.c0
  have z1:=z.c1
  have HZ:=Lib.hid (HB.out.trans ((only_iset2 w9 (B+1) (.int .u64 18442240474082181120) (.int .u64 9218868437227405312)).below (by omega)))
  clear z
  go_wp2
  refine bodyPost_ret (v:=.agg #[.int .u64 18442240474082181120,.int .u64 9218868437227405312]) (by simp [results,Tryz.results20,go_sem,z0,z1]) rfl ⟨rfl,?_⟩
  show Below _ _ _
  rw [HBe.out]
  exact HZ.out
set_option maxRecDepth 100000 in
set_option maxHeartbeats 8000000 in
theorem refSqrt_no (a b:Nat) (ha:a<18446744073709551616) (hb:b<18446744073709551616) (h:validF a b=false) (w:World) :
    Calls Tryz.prog 22 #[.agg #[.int .u64 (a:Int),.int .u64 (b:Int)]] w fun e w'=>e=.returned (.agg #[.int .u64 18442240474082181120,.int .u64 9218868437227405312])∧Ext w w':=by
  have C1:=Lib.hid (fun w=>refValid_any a b ha hb false h w)
  clear h ha hb
  go_enter Tryz.func22,Tryz.ntmps22
  go_wp2_with fail
  obtain ⟨W,hW,hB,hx,hbx,hsz⟩:=ibox_two w a b 0 0
  rw [←hW]
  clear hW
  generalize hBe:w.heap.size=B at *
  have HBe:=Lib.hid hBe
  have HB:Hid (Below B w W):=Lib.hid (by rw [←hBe];exact hB)
  clear hBe hB hsz
  have c0:=hx.c0
  have c1:=hx.c1
  go_wp2_with fail
  refine (C1.out _).mono ?_
  rintro r w1 ⟨rfl,hE⟩
  have HB:=Lib.hid (HB.out.trans (Below.mono hE (Nat.le_of_lt hx.lt)))
  have hx:=hx.below hE
  have hbx:=hbx.below hE
  clear c0 c1 hE
  have c0:=hx.c0
  have c1:=hx.c1
  go_wp2_with fail
  refine (refAll_any _).mono ?_
  rintro r w9 ⟨rfl,hE⟩
  have hbx:=hbx.below hE
  have HB:=Lib.hid (HB.out.trans (Below.mono hE (Nat.le_of_lt hx.lt)))
  clear hE
  have q0:=hbx.c0
  have q1:=hbx.c1
  have f0:=hbx.f 0
  have f1:=hbx.f 1
  have z:=hbx.stored 18442240474082181120 9218868437227405312
  have z0:=z.c0
  have z1:=z.c1
  have HZ:=Lib.hid (HB.out.trans ((only_iset2 w9 (B+1) (.int .u64 18442240474082181120) (.int .u64 9218868437227405312)).below (by omega)))
  clear z
  go_wp2
  refine bodyPost_ret (v:=.agg #[.int .u64 18442240474082181120,.int .u64 9218868437227405312]) (by simp [results,Tryz.results22,go_sem,z0,z1]) rfl ⟨rfl,?_⟩
  show Below _ _ _
  rw [HBe.out]
  exact HZ.out
set_option maxRecDepth 100000 in
set_option maxHeartbeats 8000000 in
theorem isqr_no (a b:Nat) (ha:a<18446744073709551616) (hb:b<18446744073709551616) (h:validF a b=false) (w:World) :
    Calls Tryz.prog 19 #[.agg #[.int .u64 (a:Int),.int .u64 (b:Int)]] w fun e w'=>e=.returned (.agg #[.int .u64 18442240474082181120,.int .u64 9218868437227405312])∧Ext w w':=by
  have C1:=Lib.hid (ivalid_at a b ha hb rfl rfl false h)
  clear h ha hb
  go_enter Tryz.func19,Tryz.ntmps19
  go_wp2_with fail
  obtain ⟨W,hW,hB,hx,hbx,hsz⟩:=ibox_two w a b 0 0
  rw [←hW]
  clear hW
  generalize hBe:w.heap.size=B at *
  have HBe:=Lib.hid hBe
  have HB:Hid (Below B w W):=Lib.hid (by rw [←hBe];exact hB)
  clear hBe hB hsz
  have c0:=hx.c0
  have c1:=hx.c1
  go_wp2_with fail
  refine (C1.out _).mono ?_
  rintro r w1 ⟨rfl,hE⟩
  have HB:=Lib.hid (HB.out.trans (Below.mono hE (Nat.le_of_lt hx.lt)))
  have hx:=hx.below hE
  have hbx:=hbx.below hE
  clear c0 c1 hE
  have c0:=hx.c0
  have c1:=hx.c1
  go_wp2_with fail
  refine (whole_any _).mono ?_
  rintro r w9 ⟨rfl,hE⟩
  have hbx:=hbx.below hE
  have HB:=Lib.hid (HB.out.trans (Below.mono hE (Nat.le_of_lt hx.lt)))
  clear hE
  have q0:=hbx.c0
  have q1:=hbx.c1
  have f0:=hbx.f 0
  have f1:=hbx.f 1
  have z:=hbx.stored 18442240474082181120 9218868437227405312
  have z0:=z.c0
  have z1:=z.c1
  have HZ:=Lib.hid (HB.out.trans ((only_iset2 w9 (B+1) (.int .u64 18442240474082181120) (.int .u64 9218868437227405312)).below (by omega)))
  clear z
  go_wp2
  refine bodyPost_ret (v:=.agg #[.int .u64 18442240474082181120,.int .u64 9218868437227405312]) (by simp [results,Tryz.results19,go_sem,z0,z1]) rfl ⟨rfl,?_⟩
  show Below _ _ _
  rw [HBe.out]
  exact HZ.out
set_option maxRecDepth 100000 in
set_option maxHeartbeats 8000000 in
theorem ineg_no (a b:Nat) (ha:a<18446744073709551616) (hb:b<18446744073709551616) (h:validF a b=false) (w:World) :
    Calls Tryz.prog 9 #[.agg #[.int .u64 (a:Int),.int .u64 (b:Int)]] w fun e w'=>e=.returned (.agg #[.int .u64 18442240474082181120,.int .u64 9218868437227405312])∧Ext w w':=by
  have C1:=Lib.hid (ivalid_at a b ha hb rfl rfl false h)
  clear h ha hb
  go_enter Tryz.func9,Tryz.ntmps9
  go_wp2_with fail
  obtain ⟨W,hW,hB,hx,hbx,hsz⟩:=ibox_two w a b 0 0
  rw [←hW]
  clear hW
  generalize hBe:w.heap.size=B at *
  have HBe:=Lib.hid hBe
  have HB:Hid (Below B w W):=Lib.hid (by rw [←hBe];exact hB)
  clear hBe hB hsz
  have c0:=hx.c0
  have c1:=hx.c1
  go_wp2_with fail
  refine (C1.out _).mono ?_
  rintro r w1 ⟨rfl,hE⟩
  have HB:=Lib.hid (HB.out.trans (Below.mono hE (Nat.le_of_lt hx.lt)))
  have hx:=hx.below hE
  have hbx:=hbx.below hE
  clear c0 c1 hE
  have c0:=hx.c0
  have c1:=hx.c1
  go_wp2_with fail
  refine (whole_any _).mono ?_
  rintro r w9 ⟨rfl,hE⟩
  have hbx:=hbx.below hE
  have HB:=Lib.hid (HB.out.trans (Below.mono hE (Nat.le_of_lt hx.lt)))
  clear hE
  have q0:=hbx.c0
  have q1:=hbx.c1
  have f0:=hbx.f 0
  have f1:=hbx.f 1
  have z:=hbx.stored 18442240474082181120 9218868437227405312
  have z0:=z.c0
  have z1:=z.c1
  have HZ:=Lib.hid (HB.out.trans ((only_iset2 w9 (B+1) (.int .u64 18442240474082181120) (.int .u64 9218868437227405312)).below (by omega)))
  clear z
  go_wp2
  refine bodyPost_ret (v:=.agg #[.int .u64 18442240474082181120,.int .u64 9218868437227405312]) (by simp [results,Tryz.results9,go_sem,z0,z1]) rfl ⟨rfl,?_⟩
  show Below _ _ _
  rw [HBe.out]
  exact HZ.out
set_option maxRecDepth 100000 in
set_option maxHeartbeats 8000000 in
theorem refNeg_yes (a b:Nat) (g:Good a b) (w:World) :
    Calls Tryz.prog 10 #[.agg #[.int .u64 (a:Int),.int .u64 (b:Int)]] w fun e w'=>e=.returned (.agg #[.int .u64 ((plainF (fnegF b):Nat):Int),.int .u64 ((plainF (fnegF a):Nat):Int)])∧Ext w w':=by
  have C1:=Lib.hid (fun w=>refValid_any a b g.l1 g.l2 true g.valid w)
  have NA:=refNegF_any a g.l1
  have NB:=refNegF_any b g.l2
  generalize fnegF a=p at *
  generalize fnegF b=q at *
  have PA:=refPlus_any p
  have PB:=refPlus_any q
  obtain ⟨x,hx⟩:∃ x:Int,((plainF q:Nat):Int)=x:=⟨_,rfl⟩
  obtain ⟨y,hy⟩:∃ y:Int,((plainF p:Nat):Int)=y:=⟨_,rfl⟩
  rw [hx] at PB
  rw [hy] at PA
  rw [hx,hy]
  have NA:=Lib.hid NA
  have NB:=Lib.hid NB
  have PA:=Lib.hid PA
  have PB:=Lib.hid PB
  clear hx hy g
  go_enter Tryz.func10,Tryz.ntmps10
  go_upto_region 1 with fail
  obtain ⟨W,hW,hB,hx,hbx,hsz⟩:=ibox_two w a b 0 0
  rw [←hW]
  clear hW
  generalize hBe:w.heap.size=B at *
  have HBe:=Lib.hid hBe
  have HB:Hid (Below B w W):=Lib.hid (by rw [←hBe];exact hB)
  clear hBe hB
  have hBs:B+2≤W.heap.size:=hsz
  clear hsz
  have c0:=hx.c0
  have c1:=hx.c1
  go_wp2_with fail
  refine (C1.out _).mono ?_
  rintro r V ⟨rfl,hE⟩
  have hx:=hx.below hE
  have hbx:=hbx.below hE
  have HB:=Lib.hid (HB.out.trans (Below.mono hE (by omega)))
  have hBs:B+2≤V.heap.size:=by have:=Below.size hE;omega
  clear c0 c1 hE
  have HC:=Lib.hid (show ∀ wx,Ext V wx→(wx.cell? ⟨B,0,none⟩=some (.int .u64 (a:Int))∧wx.cell? ⟨B,1,none⟩=some (.int .u64 (b:Int)))∧IBox wx (B+1) 0 0 from fun wx h=>⟨⟨(hx.below h).c0,(hx.below h).c1⟩,hbx.below h⟩)
  obtain ⟨c0,c1⟩:=(HC.out V (Ext.refl _)).1
  go_upto_region 3 with fail
  have bz:=(HC.out V (Ext.refl _)).2
  have z0:=bz.c0
  have z1:=bz.c1
  have z2:=bz.f 0
  have z3:=bz.f 1
  have st:Ext V V.drew:=(Below.refl _ _).drew
  go_region_held3 (fun wx=>wx.cell? ⟨B,0,none⟩=some (.int .u64 (a:Int))∧wx.cell? ⟨B,1,none⟩=some (.int .u64 (b:Int)))
    (first | exact (HC.out _ (by assumption)).1 | (refine ⟨?_,?_⟩ <;> go_simp))
    (first
      | (go_at_call 44;(with_reducible refine (NB.out _).mono ?_);rintro r wa ⟨rfl,rfl⟩)
      | (go_at_call 44;(with_reducible refine (NA.out _).mono ?_);rintro r wa ⟨rfl,rfl⟩)
      | (go_at_call 42;(with_reducible refine (PB.out _).mono ?_);rintro r wa ⟨rfl,rfl⟩)
      | (go_at_call 42;(with_reducible refine (PA.out _).mono ?_);rintro r wa ⟨rfl,rfl⟩))
  all_goals
    have hst:=bz.stored x y
    have y0:=hst.c0
    have y1:=hst.c1
    have HF:=Lib.hid ((HB.out.trans (Below.mono (Ext.refl V) (by omega))).trans ((only_iset2 V (B+1) (.int .u64 x) (.int .u64 y)).below (by omega)))
    clear hst
    go_wp2
    refine bodyPost_ret (v:=.agg #[.int .u64 x,.int .u64 y]) (by simp [results,Tryz.results10,go_sem,y0,y1]) rfl ⟨rfl,?_⟩
    show Below _ _ _
    rw [HBe.out]
    exact HF.out.drew
set_option maxRecDepth 100000 in
theorem refPoint_any (f:Nat) (hf:f<18446744073709551616) (v:Value) (hv:(if finB f then .agg #[.int .u64 ((plainF f:Nat):Int),.int .u64 ((plainF f:Nat):Int)] else wholeV)=v) (w:World) :
    Calls Tryz.prog 8 #[.int .u64 (f:Int)] w fun e w'=>e=.returned v∧Ext w w':=by
  have CP:=Lib.hid (refPlus_any f)
  cases hb:finB f with
  | false =>
    rw [hb,if_neg (by simp)] at hv
    subst hv
    have CF:=Lib.hid (refFin_any f hf false hb)
    clear hb hf
    go_enter Tryz.func8,Tryz.ntmps8
    go_upto_region 1 with fail
    obtain ⟨W,hW,hB,hbx,hsz⟩:=ibox_new w 0 0
    rw [←hW]
    clear hW
    generalize hBe:w.heap.size=B at *
    have HBe:=Lib.hid hBe
    have HB:Hid (Below B w W):=Lib.hid (by rw [←hBe];exact hB)
    clear hBe hB hsz
    go_wp2_with fail
    refine (CF.out _).mono ?_
    rintro r w1 ⟨rfl,rfl⟩
    go_wp2_with fail
    refine (refAll_any _).mono ?_
    rintro r w9 ⟨rfl,hE⟩
    have HB:=Lib.hid (HB.out.trans (Below.mono hE (Nat.le_of_lt hbx.lt)))
    have hbx:=hbx.below hE
    clear hE
    have q0:=hbx.c0
    have q1:=hbx.c1
    have f0:=hbx.f 0
    have f1:=hbx.f 1
    have z:=hbx.stored 18442240474082181120 9218868437227405312
    have z0:=z.c0
    have z1:=z.c1
    have HZ:=Lib.hid (HB.out.trans ((only_iset2 w9 B (.int .u64 18442240474082181120) (.int .u64 9218868437227405312)).below (by omega)))
    clear z
    go_wp2
    refine bodyPost_ret (v:=.agg #[.int .u64 18442240474082181120,.int .u64 9218868437227405312]) (by simp [results,Tryz.results8,go_sem,z0,z1]) rfl ⟨rfl,?_⟩
    show Below _ _ _
    rw [HBe.out]
    exact HZ.out
  | true =>
    rw [hb,if_pos rfl] at hv
    subst hv
    have CF:=Lib.hid (refFin_any f hf true hb)
    obtain ⟨x,hx⟩:∃ x:Int,((plainF f:Nat):Int)=x:=⟨_,rfl⟩
    have CP:=Lib.hid (show ∀ w,Calls Tryz.prog 42 #[.int .u64 (f:Int)] w fun e w'=>e=.returned (.int .u64 x)∧w=w' from fun w=>by rw [←hx];exact CP.out w)
    rw [hx]
    clear hb hf hx
    go_enter Tryz.func8,Tryz.ntmps8
    go_upto_region 1 with fail
    obtain ⟨W,hW,hB,hbx,hsz⟩:=ibox_new w 0 0
    rw [←hW]
    clear hW
    generalize hBe:w.heap.size=B at *
    have HBe:=Lib.hid hBe
    have HB:Hid (Below B w W):=Lib.hid (by rw [←hBe];exact hB)
    clear hBe hB hsz
    go_wp2_with fail
    refine (CF.out _).mono ?_
    rintro r w1 ⟨rfl,rfl⟩
    go_wp2_with fail
    refine (CP.out _).mono ?_
    rintro r w2 ⟨rfl,rfl⟩
    go_wp2_with fail
    refine (CP.out _).mono ?_
    rintro r w3 ⟨rfl,rfl⟩
    have q0:=hbx.c0
    have q1:=hbx.c1
    have f0:=hbx.f 0
    have f1:=hbx.f 1
    have z:=hbx.stored x x
    have z0:=z.c0
    have z1:=z.c1
    have HZ:=Lib.hid (HB.out.trans ((only_iset2 W B (.int .u64 x) (.int .u64 x)).below (by omega)))
    clear z
    go_wp2
    refine bodyPost_ret (v:=.agg #[.int .u64 x,.int .u64 x]) (by simp [results,Tryz.results8,go_sem,z0,z1]) rfl ⟨rfl,?_⟩
    show Below _ _ _
    rw [HBe.out]
    exact HZ.out
end Go.Proofs.YtkomhemjodbkpaaGreatDoor
