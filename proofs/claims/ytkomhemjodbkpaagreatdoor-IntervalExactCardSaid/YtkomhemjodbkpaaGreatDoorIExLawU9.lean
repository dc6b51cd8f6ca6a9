import Derived.Test.YtkomhemjodbkpaaGreatDoorIExLawU8
namespace Go.Proofs.YtkomhemjodbkpaaGreatDoor
open Go.RowKit
theorem kind_at2 (f:Nat) (hf:f<18446744073709551616) (k:Int) (hk:fkind f=k) (w:World) :
    Calls Tryz.prog 136 #[.int .u64 (f:Int)] w fun e w'=>e=.returned (.int .i64 k)∧w=w':=by
  rw [←hk];exact kind_any f hf w
theorem kind_num2 {f:Nat} (h:nanB f=false):fkind f≠3:=by
  have h1:=fkind_cases f
  have h2:¬ 9218868437227405312<fmag f:=of_decide_eq_false h
  omega
theorem ext_allocI (w:World) (o:Obj):Below w.heap.size w (w.alloc o):=(Below.refl _ w).alloc (Nat.le_refl _) o
theorem fb_new (w:World) (r1 r2 r3 r4:Nat):FB (w.alloc (.cells #[.int .u64 (r1:Int),.int .u64 (r2:Int),.int .u64 (r3:Int),.int .u64 (r4:Int)] 23)) w.heap.size [r1,r2,r3,r4]:=heap_alloc_new w _
set_option maxRecDepth 100000 in
set_option maxHeartbeats 8000000 in
theorem corners_any (a b c d:Nat) (mode:Int) (r1 r2 r3 r4:Nat) (ha:a<18446744073709551616) (hb:b<18446744073709551616) (hc:c<18446744073709551616) (hd:d<18446744073709551616) (h1:fmulF a c mode=r1) (h2:fmulF a d mode=r2) (h3:fmulF b c mode=r3) (h4:fmulF b d mode=r4)
    (hl:∀ x∈[r1,r2,r3,r4],x<18446744073709551616) (hnan:∀ x∈[r1,r2,r3,r4],nanB x=false) (w:World) :
    Calls Tryz.prog 92 #[.func (.func 50) #[] #[],.agg #[.int .u64 (a:Int),.int .u64 (b:Int)],.agg #[.int .u64 (c:Int),.int .u64 (d:Int)],.int .i64 mode] w fun e w'=>∃ g,e=.returned (.slice (some ⟨g,0,none⟩) 4 4)∧FB w' g [r1,r2,r3,r4]∧Ext w w':=by
  have C1:=Lib.hid (fmul_any a c mode ha hc)
  have C2:=Lib.hid (fmul_any a d mode ha hd)
  have C3:=Lib.hid (fmul_any b c mode hb hc)
  have C4:=Lib.hid (fmul_any b d mode hb hd)
  rw [h1] at C1
  rw [h2] at C2
  rw [h3] at C3
  rw [h4] at C4
  have HL:=Lib.hid hl
  have HNAN:=Lib.hid hnan
  clear h1 h2 h3 h4 ha hb hc hd hl hnan
  go_enter Tryz.func92,Tryz.ntmps92
  go_wp2_with fail
  obtain ⟨W,hW,hB,hx,hy,hsz⟩:=ibox_two w a b c d
  rw [←hW]
  clear hW
  have HB:=Lib.hid hB
  generalize w.heap.size=B at hx hy hsz ⊢
  clear hB
  have c0:=hx.c0
  have c1:=hx.c1
  have c2:=hy.c0
  have c3:=hy.c1
  go_region_held3 (fun wx=>wx.cell? ⟨B,0,none⟩=some (.int .u64 (a:Int))∧wx.cell? ⟨B,1,none⟩=some (.int .u64 (b:Int))∧wx.cell? ⟨B+1,0,none⟩=some (.int .u64 (c:Int))∧wx.cell? ⟨B+1,1,none⟩=some (.int .u64 (d:Int)))
    (first | exact ⟨c0,c1,c2,c3⟩ | exact ⟨x1.c0,x1.c1,y1.c0,y1.c1⟩ | exact ⟨x2.c0,x2.c1,y2.c0,y2.c1⟩ | exact ⟨x3.c0,x3.c1,y3.c0,y3.c1⟩ | exact ⟨x4.c0,x4.c1,y4.c0,y4.c1⟩ | exact ⟨(x4.below (ext_allocI w4 _)).c0,(x4.below (ext_allocI w4 _)).c1,(y4.below (ext_allocI w4 _)).c0,(y4.below (ext_allocI w4 _)).c1⟩)
    (first
      | (go_at_call 50;(with_reducible refine (C1.out _).mono ?_);rintro r w1 ⟨rfl,hE1⟩;have x1:=hx.drew.below hE1;have y1:=hy.drew.below hE1;have e0:=x1.c0;have e1:=x1.c1;have e2:=y1.c0;have e3:=y1.c1)
      | (go_at_call 50;(with_reducible refine (C2.out _).mono ?_);rintro r w2 ⟨rfl,hE2⟩;have x2:=x1.below hE2;have y2:=y1.below hE2;clear e0 e1 e2 e3;have e0:=x2.c0;have e1:=x2.c1;have e2:=y2.c0;have e3:=y2.c1)
      | (go_at_call 50;(with_reducible refine (C3.out _).mono ?_);rintro r w3 ⟨rfl,hE3⟩;have x3:=x2.below hE3;have y3:=y2.below hE3;clear e0 e1 e2 e3;have e0:=x3.c0;have e1:=x3.c1;have e2:=y3.c0;have e3:=y3.c1)
      | (go_at_call 50;(with_reducible refine (C4.out _).mono ?_);rintro r w4 ⟨rfl,hE4⟩;have x4:=x3.below hE4;have y4:=y3.below hE4;clear e0 e1 e2 e3;have e0:=x4.c0;have e1:=x4.c1;have e2:=y4.c0;have e3:=y4.c1))
  have HE4:=Lib.hid (Ext.trans HB.out (Ext.trans (Ext.trans (Ext.trans (Ext.trans (Below.refl W.heap.size W).drew hE1) hE2) hE3) hE4))
  have hfb:=fb_new w4 r1 r2 r3 r4
  have hE5:=Lib.hid (Ext.trans HE4.out ((Below.refl _ w4).alloc (Nat.le_refl _) (.cells #[.int .u64 (r1:Int),.int .u64 (r2:Int),.int .u64 (r3:Int),.int .u64 (r4:Int)] 23)))
  clear hE1 hE2 hE3 hE4 x1 x2 x3 x4 y1 y2 y3 y4 hx hy
  go_upto_region 2 with fail
  generalize w4.alloc (.cells #[.int .u64 (r1:Int),.int .u64 (r2:Int),.int .u64 (r3:Int),.int .u64 (r4:Int)] 23)=V at *
  generalize w4.heap.size=g at *
  go_wp2
  go_loopw [10,11,43] (fun _ _ k wr=>∃ j:Nat,j≤4∧k=.int .i64 (j:Int)∧wr=V) (fun _ _ k _=>4 - (intOf k).toNat)
  case atStart=>exact ⟨0,Nat.zero_le _,rfl,rfl⟩
  case round =>
    obtain ⟨j,hj,rfl,rfl⟩:=hrel
    by_cases hlt:j<4
    · have hcell:=hfb.cell j hlt
      have hxl:=getD_lt HL.out j
      have hxn:nanB ([r1,r2,r3,r4].getD j 0)=false:=by
        refine HNAN.out _ ?_
        rcases (show j=0∨j=1∨j=2∨j=3 by omega) with h | h | h | h <;> subst h <;> simp
      obtain ⟨x,hxe⟩:∃ x,[r1,r2,r3,r4].getD j 0=x:=⟨_,rfl⟩
      rw [hxe] at hcell hxl hxn
      obtain ⟨k,hk⟩:∃ k,fkind x=k:=⟨_,rfl⟩
      have hk3:(k == 3)=false:=by rw [beq_eq_false_iff_ne,←hk];exact kind_num2 hxn
      have CK:=Lib.hid (kind_at2 x hxl k hk)
      clear hxe hxl hxn hk
      go_wp2_with fail
      refine (CK.out _).mono ?_
      rintro r w9 ⟨rfl,rfl⟩
      go_wp2
      go_roundw
      case rel=>exact ⟨j+1,by omega,by go_num,by first | rfl | trivial⟩
      case measure=>simp [intOf] <;> omega
    · obtain rfl:j=4:=by omega
      go_wp2
      go_ret
      exact ⟨g,rfl,hfb,hE5.out⟩
structure MulF (a b c d:Nat) (x y:Int) (l1 l2:List Nat):Prop where
  e1:l1 = [fmulF a c 1,fmulF a d 1,fmulF b c 1,fmulF b d 1]
  e2:l2 = [fmulF a c 2,fmulF a d 2,fmulF b c 2,fmulF b d 2]
  n1:∀ x∈l1,x<18446744073709551616∧nanB x=false
  n2:∀ x∈l2,x<18446744073709551616∧nanB x=false
  hx:((plainF (leastF l1):Nat):Int)=x
  hy:((plainF (greatF l2):Nat):Int)=y
theorem corners_at (a b c d:Nat) (mode:Int) (l:List Nat) (ha:a<18446744073709551616) (hb:b<18446744073709551616) (hc:c<18446744073709551616) (hd:d<18446744073709551616) (h:l = [fmulF a c mode,fmulF a d mode,fmulF b c mode,fmulF b d mode]) (hl:∀ x∈l,x<18446744073709551616∧nanB x=false) (w:World) :
    Calls Tryz.prog 92 #[.func (.func 50) #[] #[],.agg #[.int .u64 (a:Int),.int .u64 (b:Int)],.agg #[.int .u64 (c:Int),.int .u64 (d:Int)],.int .i64 mode] w fun e w'=>∃ g,e=.returned (.slice (some ⟨g,0,none⟩) 4 4)∧FB w' g l∧Ext w w':=by
  subst h
  exact corners_any a b c d mode _ _ _ _ ha hb hc hd rfl rfl rfl rfl (fun x hx=>(hl x hx).1) (fun x hx=>(hl x hx).2) w
set_option maxRecDepth 100000 in
set_option maxHeartbeats 8000000 in
theorem span_any (a b c d:Nat) (x y:Int) (l1 l2:List Nat) (ha:a<18446744073709551616) (hb:b<18446744073709551616) (hc:c<18446744073709551616) (hd:d<18446744073709551616) (hf:MulF a b c d x y l1 l2) (w:World) :
    Calls Tryz.prog 49 #[.func (.func 50) #[] #[],.agg #[.int .u64 (a:Int),.int .u64 (b:Int)],.agg #[.int .u64 (c:Int),.int .u64 (d:Int)]] w fun e w'=>e=.returned (.agg #[.int .u64 x,.int .u64 y])∧Ext w w':=by
  have K1:=Lib.hid (corners_at a b c d 1 l1 ha hb hc hd hf.e1 hf.n1)
  have K2:=Lib.hid (corners_at a b c d 2 l2 ha hb hc hd hf.e2 hf.n2)
  have L1:=Lib.hid (fun g w h=>least_any g l1 4 (by rw [hf.e1];rfl) (by omega) (fun x hx=>(hf.n1 x hx).1) w h)
  have L2:=Lib.hid (fun g w h=>greatest_any g l2 4 (by rw [hf.e2];rfl) (by omega) (fun x hx=>(hf.n2 x hx).1) w h)
  have KB:=Lib.hid (between_any (leastF l1) (greatF l2))
  rw [hf.hx,hf.hy] at KB
  generalize leastF l1=m1 at *
  generalize greatF l2=m2 at *
  clear hf ha hb hc hd
  go_enter Tryz.func49,Tryz.ntmps49
  go_wp2_with fail
  obtain ⟨W,hW,hB,hx,hy,hbx,hsz⟩:=ibox_three w a b c d 0 0
  rw [←hW]
  clear hW
  generalize hBe:w.heap.size=B at *
  have HBe:=Lib.hid hBe
  have HB:Hid (Below B w W):=Lib.hid (by rw [←hBe];exact hB)
  clear hBe hB
  have c0:=hx.c0
  have c1:=hx.c1
  have c2:=hy.c0
  have c3:=hy.c1
  have TAG:=Lib.hid trivial
  go_region_held3 (fun wx=>wx.cell? ⟨B,0,none⟩=some (.int .u64 (a:Int))∧wx.cell? ⟨B,1,none⟩=some (.int .u64 (b:Int))∧wx.cell? ⟨B+1,0,none⟩=some (.int .u64 (c:Int))∧wx.cell? ⟨B+1,1,none⟩=some (.int .u64 (d:Int)))
    (first | exact ⟨c0,c1,c2,c3⟩ | exact ⟨x1.c0,x1.c1,y1.c0,y1.c1⟩ | exact ⟨x2.c0,x2.c1,y2.c0,y2.c1⟩ | exact ⟨x3.c0,x3.c1,y3.c0,y3.c1⟩ | exact ⟨x4.c0,x4.c1,y4.c0,y4.c1⟩ | exact ⟨x5.c0,x5.c1,y5.c0,y5.c1⟩ | (refine ⟨?_,?_,?_,?_⟩ <;> go_simp))
    (first
      | (go_at_call 92;(with_reducible refine (K1.out _).mono ?_);rintro r w1 ⟨g1,rfl,hf1,hE1⟩;have x1:=hx.drew.below hE1;have y1:=hy.drew.below hE1;have b1:=hbx.drew.below hE1;have e0:=x1.c0;have e1:=x1.c1;have e2:=y1.c0;have e3:=y1.c1)
      | (go_at_call 63;refine (L1.out g1 _ (by exact hf1)).mono ?_;rintro r w2 ⟨rfl,hE2⟩;have x2:=x1.below hE2;have y2:=y1.below hE2;have b2:=b1.below hE2;clear e0 e1 e2 e3;have e0:=x2.c0;have e1:=x2.c1;have e2:=y2.c0;have e3:=y2.c1)
      | (go_at_call 92;(with_reducible refine (K2.out _).mono ?_);rintro r w3 ⟨g2,rfl,hf2,hE3⟩;have x3:=x2.below hE3;have y3:=y2.below hE3;have b3:=b2.below hE3;clear e0 e1 e2 e3;have e0:=x3.c0;have e1:=x3.c1;have e2:=y3.c0;have e3:=y3.c1)
      | (go_at_call 60;refine (L2.out g2 _ (by exact hf2)).mono ?_;rintro r w4 ⟨rfl,hE4⟩;have x4:=x3.below hE4;have y4:=y3.below hE4;have b4:=b3.below hE4;clear e0 e1 e2 e3;have e0:=x4.c0;have e1:=x4.c1;have e2:=y4.c0;have e3:=y4.c1)
      | (go_at_call 39;refine (KB.out _).mono ?_;rintro r w5 ⟨rfl,hE5⟩;have x5:=x4.below hE5;have y5:=y4.below hE5;have b5:=b4.below hE5;clear e0 e1 e2 e3;have e0:=x5.c0;have e1:=x5.c1;have e2:=y5.c0;have e3:=y5.c1;have q0:=b5.c0;have q1:=b5.c1;have q2:=b5.f 0;have q3:=b5.f 1))
  have hB2:=((HB.out.trans (Below.mono (Below.refl _ W).drew (Nat.le_of_lt hx.lt))).trans (Below.mono hE1 (Nat.le_of_lt hx.drew.lt))).trans (Below.mono hE2 (Nat.le_of_lt x1.lt))
  have hB2:=((hB2.trans (Below.mono hE3 (Nat.le_of_lt x2.lt))).trans (Below.mono hE4 (Nat.le_of_lt x3.lt))).trans (Below.mono hE5 (Nat.le_of_lt x4.lt))
  have bx:=b5
  have hst:=bx.stored x y
  have z0:=hst.c0
  have z1:=hst.c1
  have HB:=Lib.hid (hB2.trans ((only_iset2 w5 (B+1+1) (.int .u64 x) (.int .u64 y)).below (by omega)))
  clear hst hB2
  go_wp2
  refine bodyPost_ret (v:=.agg #[.int .u64 x,.int .u64 y]) (by simp [results,Tryz.results49,go_sem,z0,z1]) rfl ⟨rfl,?_⟩
  show Below _ _ _
  rw [HBe.out]
  exact HB.out
set_option maxRecDepth 100000 in
set_option maxHeartbeats 8000000 in
theorem imul_yes (a b c d:Nat) (x y:Int) (l1 l2:List Nat) (ha:a<18446744073709551616) (hb:b<18446744073709551616) (hc:c<18446744073709551616) (hd:d<18446744073709551616) (h1:validF a b=true) (h2:validF c d=true) (hf:MulF a b c d x y l1 l2) (w:World) :
    Calls Tryz.prog 15 #[.agg #[.int .u64 (a:Int),.int .u64 (b:Int)],.agg #[.int .u64 (c:Int),.int .u64 (d:Int)]] w fun e w'=>e=.returned (.agg #[.int .u64 x,.int .u64 y])∧Ext w w':=by
  have C1:=Lib.hid (ivalid_at a b ha hb rfl rfl true h1)
  have C2:=Lib.hid (ivalid_at c d hc hd rfl rfl true h2)
  have C3:=Lib.hid (span_any a b c d x y l1 l2 ha hb hc hd hf)
  clear h1 h2 ha hb hc hd hf
  go_enter Tryz.func15,Tryz.ntmps15
  go_wp2_with fail
  obtain ⟨W,hW,hB,hx,hy,hbx,hsz⟩:=ibox_three w a b c d 0 0
  rw [←hW]
  clear hW
  generalize hBe:w.heap.size=B at *
  have HBe:=Lib.hid hBe
  have HB:Hid (Below B w W):=Lib.hid (by rw [←hBe];exact hB)
  clear hBe hB hsz
  have c0:=hx.c0
  have c1:=hx.c1
  have c2:=hy.c0
  have c3:=hy.c1
  go_wp2_with fail
  refine (C1.out _).mono ?_
  rintro r w1 ⟨rfl,hE⟩
  have HB:=Lib.hid (HB.out.trans (Below.mono hE (Nat.le_of_lt hx.lt)))
  have hx:=hx.below hE
  have hy:=hy.below hE
  have hbx:=hbx.below hE
  clear c0 c1 c2 c3 hE
  have c0:=hx.c0
  have c1:=hx.c1
  have c2:=hy.c0
  have c3:=hy.c1
  go_wp2_with fail
  refine (C2.out _).mono ?_
  rintro r w2 ⟨rfl,hE⟩
  have HB:=Lib.hid (HB.out.trans (Below.mono hE (Nat.le_of_lt hx.lt)))
  have hx:=hx.below hE
  have hy:=hy.below hE
  have hbx:=hbx.below hE
  clear c0 c1 c2 c3 hE
  have c0:=hx.c0
  have c1:=hx.c1
  have c2:=hy.c0
  have c3:=hy.c1
  go_wp2_with fail
  refine (C3.out _).mono ?_
  rintro r w3 ⟨rfl,hE⟩
  have HB:=Lib.hid (HB.out.trans (Below.mono hE (Nat.le_of_lt hx.lt)))
  have hx:=hx.below hE
  have hy:=hy.below hE
  have hbx:=hbx.below hE
  clear c0 c1 c2 c3 hE
  have c0:=hx.c0
  have c1:=hx.c1
  have c2:=hy.c0
  have c3:=hy.c1
  have q0:=hbx.c0
  have q1:=hbx.c1
  have q2:=hbx.f 0
  have q3:=hbx.f 1
  have hst:=hbx.stored x y
  have z0:=hst.c0
  have z1:=hst.c1
  have HB:=Lib.hid (HB.out.trans ((only_iset2 w3 (B+1+1) (.int .u64 x) (.int .u64 y)).below (by omega)))
  clear hst
  go_wp2
  refine bodyPost_ret (v:=.agg #[.int .u64 x,.int .u64 y]) (by simp [results,Tryz.results15,go_sem,z0,z1]) rfl ⟨rfl,?_⟩
  show Below _ _ _
  rw [HBe.out]
  exact HB.out
open Go.RowKit
def nz (x:Nat):Nat:=if nanB x then 0 else x
theorem nz_lt {l l':List Nat} (h:l=l'.map nz) (hl:∀ x∈l',x<18446744073709551616):∀ x∈l,x<18446744073709551616:=by
  subst h
  intro x hx
  obtain ⟨y,hy,rfl⟩:=List.mem_map.1 hx
  have:=hl y hy
  unfold nz
  split <;> omega
theorem kind_nan2 {f:Nat} (h:nanB f=true):fkind f=3:=by
  have h1:=fkind_cases f
  have h2:9218868437227405312<fmag f:=of_decide_eq_true h
  omega
theorem FB.set {w:World} {g:Nat} {l:List Nat} (h:FB w g l) (j x:Nat):FB (w.setCell ⟨g,j,none⟩ (.int .u64 (x:Int))) g (l.set j x):=by
  unfold FB at h ⊢
  rw [List.map_set]
  simp [World.setCell,Array.getElem?_modify,h]
theorem corn_next {l:List Nat} {j:Nat} (h:j<l.length):((l.map nz).take j++l.drop j).getD j 0=l.getD j 0 ∧
    (((l.map nz).take j++l.drop j).set j (nz (l.getD j 0))=(l.map nz).take (j+1)++l.drop (j+1)) ∧
    (nz (l.getD j 0)=l.getD j 0→(l.map nz).take j++l.drop j=(l.map nz).take (j+1)++l.drop (j+1)):=by
  have hlen:((l.map nz).take j).length=j:=by rw [List.length_take,List.length_map];omega
  have hd:l.drop j=l[j] :: l.drop (j+1):=List.drop_eq_getElem_cons h
  have ht:(l.map nz).take (j+1)=(l.map nz).take j++[nz l[j]]:=by
    rw [List.take_succ_eq_append_getElem (by rw [List.length_map];exact h)]
    simp
  have hg:l.getD j 0=l[j]:=by simp [List.getD,h]
  refine ⟨?_,?_,fun he=>?_⟩
  · simp [List.getD,List.getElem?_append_right (show ((l.map nz).take j).length≤j by omega),hlen,h]
  · rw [List.set_append_right _ _ (by omega),hlen,Nat.sub_self,hd,List.set_cons_zero,ht,hg,List.append_assoc]
    rfl
  · rw [ht,hd,List.append_assoc]
    rw [hg] at he
    rw [he]
    rfl
set_option maxRecDepth 100000 in
set_option maxHeartbeats 8000000 in
theorem cornMul_any (a b c d:Nat) (mode:Int) (r1 r2 r3 r4:Nat) (ha:a<18446744073709551616) (hb:b<18446744073709551616) (hc:c<18446744073709551616) (hd:d<18446744073709551616) (h1:fmulF a c mode=r1) (h2:fmulF a d mode=r2) (h3:fmulF b c mode=r3) (h4:fmulF b d mode=r4)
    (hl:∀ x∈[r1,r2,r3,r4],x<18446744073709551616) (w:World) :
    Calls Tryz.prog 92 #[.func (.func 50) #[] #[],.agg #[.int .u64 (a:Int),.int .u64 (b:Int)],.agg #[.int .u64 (c:Int),.int .u64 (d:Int)],.int .i64 mode] w fun e w'=>∃ g,e=.returned (.slice (some ⟨g,0,none⟩) 4 4)∧FB w' g ([r1,r2,r3,r4].map nz)∧Ext w w':=by
  have C1:=Lib.hid (fmul_any a c mode ha hc)
  have C2:=Lib.hid (fmul_any a d mode ha hd)
  have C3:=Lib.hid (fmul_any b c mode hb hc)
  have C4:=Lib.hid (fmul_any b d mode hb hd)
  rw [h1] at C1
  rw [h2] at C2
  rw [h3] at C3
  rw [h4] at C4
  obtain ⟨lst,hlst⟩:∃ lst,[r1,r2,r3,r4]=lst:=⟨_,rfl⟩
  have hl4:lst.length=4:=by rw [←hlst];rfl
  rw [hlst] at hl ⊢
  have HQ:=Lib.hid hlst
  clear hlst
  have HL:=Lib.hid hl
  clear h1 h2 h3 h4 ha hb hc hd hl
  go_enter Tryz.func92,Tryz.ntmps92
  go_wp2_with fail
  obtain ⟨W,hW,hB,hx,hy,hsz⟩:=ibox_two w a b c d
  rw [←hW]
  clear hW
  have HB:=Lib.hid hB
  generalize w.heap.size=B at hx hy hsz ⊢
  clear hB
  have c0:=hx.c0
  have c1:=hx.c1
  have c2:=hy.c0
  have c3:=hy.c1
  go_region_held3 (fun wx=>wx.cell? ⟨B,0,none⟩=some (.int .u64 (a:Int))∧wx.cell? ⟨B,1,none⟩=some (.int .u64 (b:Int))∧wx.cell? ⟨B+1,0,none⟩=some (.int .u64 (c:Int))∧wx.cell? ⟨B+1,1,none⟩=some (.int .u64 (d:Int)))
    (first | exact ⟨c0,c1,c2,c3⟩ | exact ⟨x1.c0,x1.c1,y1.c0,y1.c1⟩ | exact ⟨x2.c0,x2.c1,y2.c0,y2.c1⟩ | exact ⟨x3.c0,x3.c1,y3.c0,y3.c1⟩ | exact ⟨x4.c0,x4.c1,y4.c0,y4.c1⟩ | exact ⟨(x4.below (ext_allocI w4 _)).c0,(x4.below (ext_allocI w4 _)).c1,(y4.below (ext_allocI w4 _)).c0,(y4.below (ext_allocI w4 _)).c1⟩)
    (first
      | (go_at_call 50;(with_reducible refine (C1.out _).mono ?_);rintro r w1 ⟨rfl,hE1⟩;have x1:=hx.drew.below hE1;have y1:=hy.drew.below hE1;have e0:=x1.c0;have e1:=x1.c1;have e2:=y1.c0;have e3:=y1.c1)
      | (go_at_call 50;(with_reducible refine (C2.out _).mono ?_);rintro r w2 ⟨rfl,hE2⟩;have x2:=x1.below hE2;have y2:=y1.below hE2;clear e0 e1 e2 e3;have e0:=x2.c0;have e1:=x2.c1;have e2:=y2.c0;have e3:=y2.c1)
      | (go_at_call 50;(with_reducible refine (C3.out _).mono ?_);rintro r w3 ⟨rfl,hE3⟩;have x3:=x2.below hE3;have y3:=y2.below hE3;clear e0 e1 e2 e3;have e0:=x3.c0;have e1:=x3.c1;have e2:=y3.c0;have e3:=y3.c1)
      | (go_at_call 50;(with_reducible refine (C4.out _).mono ?_);rintro r w4 ⟨rfl,hE4⟩;have x4:=x3.below hE4;have y4:=y3.below hE4;clear e0 e1 e2 e3;have e0:=x4.c0;have e1:=x4.c1;have e2:=y4.c0;have e3:=y4.c1))
  have HE4:=Lib.hid (Ext.trans HB.out (Ext.trans (Ext.trans (Ext.trans (Ext.trans (Below.refl W.heap.size W).drew hE1) hE2) hE3) hE4))
  have hgw:w.heap.size≤w4.heap.size:=Below.size HE4.out
  have hfb:=fb_new w4 r1 r2 r3 r4
  have hE5:=Lib.hid (Ext.trans HE4.out ((Below.refl _ w4).alloc (Nat.le_refl _) (.cells #[.int .u64 (r1:Int),.int .u64 (r2:Int),.int .u64 (r3:Int),.int .u64 (r4:Int)] 23)))
  clear hE1 hE2 hE3 hE4 x1 x2 x3 x4 y1 y2 y3 y4 hx hy
  go_upto_region 2 with fail
  generalize w4.alloc (.cells #[.int .u64 (r1:Int),.int .u64 (r2:Int),.int .u64 (r3:Int),.int .u64 (r4:Int)] 23)=V at *
  generalize w4.heap.size=g at *
  go_wp2
  have hgB:g<V.heap.size:=hfb.lt
  have hVe:Ext w V:=hE5.out
  have hfb0:FB V g (([r1,r2,r3,r4].map nz).take 0++[r1,r2,r3,r4].drop 0):=hfb
  rw [HQ.out] at hfb0
  clear hfb hE5 HE4
  go_loopw [10,11,43] (fun _ _ k wr=>∃ j:Nat,j≤4∧k=.int .i64 (j:Int)∧FB wr g ((lst.map nz).take j++lst.drop j)∧Ext w wr) (fun _ _ k _=>4 - (intOf k).toNat)
  case atStart=>exact ⟨0,Nat.zero_le _,rfl,hfb0,hVe⟩
  case round =>
    obtain ⟨j,hj,rfl,hfb,hVe⟩:=hrel
    by_cases hlt:j<4
    · obtain ⟨hg1,hg2⟩:=corn_next (l:=lst) (j:=j) (by rw [hl4];exact hlt)
      have hcell:=hfb.cell j (by simp [hl4];omega)
      have hfz:=hfb.f j
      have hxl:=getD_lt HL.out j
      rw [hg1] at hcell
      obtain ⟨x,hxe⟩:∃ x,lst.getD j 0=x:=⟨_,rfl⟩
      rw [hxe] at hcell hxl hg2
      obtain ⟨k,hk⟩:∃ k,fkind x=k:=⟨_,rfl⟩
      have CK:=Lib.hid (kind_at2 x hxl k hk)
      by_cases hn:nanB x=true
      · have hk3:(k == 3)=true:=by rw [beq_iff_eq,←hk];exact kind_nan2 hn
        have hz:nz x=0:=by unfold nz;rw [hn];rfl
        have hset:=hfb.set j 0
        rw [hz] at hg2
        rw [hg2.1] at hset
        have ho:Only g wr (wr.setCell ⟨g,j,none⟩ (.int .u64 ((0:Nat):Int))):=(Only.refl g wr).setCell _ _
        have hE3:Ext w (wr.setCell ⟨g,j,none⟩ (.int .u64 ((0:Nat):Int))):=Below.trans hVe (ho.below hgw)
        have R:=Lib.hid (And.intro hset hE3)
        clear hxe hxl hn hk hg1 hg2 hset hE3 ho hfb
        go_wp2_with fail
        refine (CK.out _).mono ?_
        rintro r w9 ⟨rfl,rfl⟩
        go_wp2
        go_roundw
        case rel=>exact ⟨j+1,by omega,by go_num,R.out.1,R.out.2⟩
        case measure=>simp [intOf] <;> omega
      · have hn0:nanB x=false:=by cases h:nanB x with
          | true=>exact absurd h hn
          | false=>rfl
        have hk3:(k == 3)=false:=by rw [beq_eq_false_iff_ne,←hk];exact kind_num2 hn0
        have hz:nz x=x:=by unfold nz;rw [hn0];rfl
        rw [hz] at hg2
        rw [hg2.2 rfl] at hfb
        have R:=Lib.hid (And.intro hfb hVe)
        clear hxe hxl hn hn0 hk hg1 hg2 hz hfb hVe
        go_wp2_with fail
        refine (CK.out _).mono ?_
        rintro r w9 ⟨rfl,rfl⟩
        go_wp2
        go_roundw
        case rel=>exact ⟨j+1,by omega,by go_num,R.out.1,R.out.2⟩
        case measure=>simp [intOf] <;> omega
    · obtain rfl:j=4:=by omega
      have hend:(lst.map nz).take 4++lst.drop 4=lst.map nz:=by
        rw [List.drop_of_length_le (by omega),List.take_of_length_le (by simp [hl4]),List.append_nil]
      rw [hend] at hfb
      have R:=Lib.hid (And.intro hfb hVe)
      go_wp2
      go_ret
      exact ⟨g,rfl,R.out.1,R.out.2⟩
structure SpanMulF (a b c d:Nat) (x y:Int) (l1 l2:List Nat):Prop where
  e1:l1 = [fmulF a c 1,fmulF a d 1,fmulF b c 1,fmulF b d 1].map nz
  e2:l2 = [fmulF a c 2,fmulF a d 2,fmulF b c 2,fmulF b d 2].map nz
  n1:∀ x∈[fmulF a c 1,fmulF a d 1,fmulF b c 1,fmulF b d 1],x<18446744073709551616
  n2:∀ x∈[fmulF a c 2,fmulF a d 2,fmulF b c 2,fmulF b d 2],x<18446744073709551616
  hx:((plainF (leastF l1):Nat):Int)=x
  hy:((plainF (greatF l2):Nat):Int)=y
theorem cornMul_at (a b c d:Nat) (mode:Int) (l:List Nat) (ha:a<18446744073709551616) (hb:b<18446744073709551616) (hc:c<18446744073709551616) (hd:d<18446744073709551616) (h:l = [fmulF a c mode,fmulF a d mode,fmulF b c mode,fmulF b d mode].map nz) (hl:∀ x∈[fmulF a c mode,fmulF a d mode,fmulF b c mode,fmulF b d mode],x<18446744073709551616) (w:World) :
    Calls Tryz.prog 92 #[.func (.func 50) #[] #[],.agg #[.int .u64 (a:Int),.int .u64 (b:Int)],.agg #[.int .u64 (c:Int),.int .u64 (d:Int)],.int .i64 mode] w fun e w'=>∃ g,e=.returned (.slice (some ⟨g,0,none⟩) 4 4)∧FB w' g l∧Ext w w':=by
  subst h
  exact cornMul_any a b c d mode _ _ _ _ ha hb hc hd rfl rfl rfl rfl hl w
set_option maxRecDepth 100000 in
set_option maxHeartbeats 8000000 in
theorem spanMul_any (a b c d:Nat) (x y:Int) (l1 l2:List Nat) (ha:a<18446744073709551616) (hb:b<18446744073709551616) (hc:c<18446744073709551616) (hd:d<18446744073709551616) (hf:SpanMulF a b c d x y l1 l2) (w:World) :
    Calls Tryz.prog 49 #[.func (.func 50) #[] #[],.agg #[.int .u64 (a:Int),.int .u64 (b:Int)],.agg #[.int .u64 (c:Int),.int .u64 (d:Int)]] w fun e w'=>e=.returned (.agg #[.int .u64 x,.int .u64 y])∧Ext w w':=by
  have K1:=Lib.hid (cornMul_at a b c d 1 l1 ha hb hc hd hf.e1 hf.n1)
  have K2:=Lib.hid (cornMul_at a b c d 2 l2 ha hb hc hd hf.e2 hf.n2)
  have L1:=Lib.hid (fun g w h=>least_any g l1 4 (by rw [hf.e1];rfl) (by omega) (nz_lt hf.e1 hf.n1) w h)
  have L2:=Lib.hid (fun g w h=>greatest_any g l2 4 (by rw [hf.e2];rfl) (by omega) (nz_lt hf.e2 hf.n2) w h)
  have KB:=Lib.hid (between_any (leastF l1) (greatF l2))
  rw [hf.hx,hf.hy] at KB
  generalize leastF l1=m1 at *
  generalize greatF l2=m2 at *
  clear hf ha hb hc hd
  go_enter Tryz.func49,Tryz.ntmps49
  go_wp2_with fail
  obtain ⟨W,hW,hB,hx,hy,hbx,hsz⟩:=ibox_three w a b c d 0 0
  rw [←hW]
  clear hW
  generalize hBe:w.heap.size=B at *
  have HBe:=Lib.hid hBe
  have HB:Hid (Below B w W):=Lib.hid (by rw [←hBe];exact hB)
  clear hBe hB
  have c0:=hx.c0
  have c1:=hx.c1
  have c2:=hy.c0
  have c3:=hy.c1
  have TAG:=Lib.hid trivial
  go_region_held3 (fun wx=>wx.cell? ⟨B,0,none⟩=some (.int .u64 (a:Int))∧wx.cell? ⟨B,1,none⟩=some (.int .u64 (b:Int))∧wx.cell? ⟨B+1,0,none⟩=some (.int .u64 (c:Int))∧wx.cell? ⟨B+1,1,none⟩=some (.int .u64 (d:Int)))
    (first | exact ⟨c0,c1,c2,c3⟩ | exact ⟨x1.c0,x1.c1,y1.c0,y1.c1⟩ | exact ⟨x2.c0,x2.c1,y2.c0,y2.c1⟩ | exact ⟨x3.c0,x3.c1,y3.c0,y3.c1⟩ | exact ⟨x4.c0,x4.c1,y4.c0,y4.c1⟩ | exact ⟨x5.c0,x5.c1,y5.c0,y5.c1⟩ | (refine ⟨?_,?_,?_,?_⟩ <;> go_simp))
    (first
      | (go_at_call 92;(with_reducible refine (K1.out _).mono ?_);rintro r w1 ⟨g1,rfl,hf1,hE1⟩;have x1:=hx.drew.below hE1;have y1:=hy.drew.below hE1;have b1:=hbx.drew.below hE1;have e0:=x1.c0;have e1:=x1.c1;have e2:=y1.c0;have e3:=y1.c1)
      | (go_at_call 63;refine (L1.out g1 _ (by exact hf1)).mono ?_;rintro r w2 ⟨rfl,hE2⟩;have x2:=x1.below hE2;have y2:=y1.below hE2;have b2:=b1.below hE2;clear e0 e1 e2 e3;have e0:=x2.c0;have e1:=x2.c1;have e2:=y2.c0;have e3:=y2.c1)
      | (go_at_call 92;(with_reducible refine (K2.out _).mono ?_);rintro r w3 ⟨g2,rfl,hf2,hE3⟩;have x3:=x2.below hE3;have y3:=y2.below hE3;have b3:=b2.below hE3;clear e0 e1 e2 e3;have e0:=x3.c0;have e1:=x3.c1;have e2:=y3.c0;have e3:=y3.c1)
      | (go_at_call 60;refine (L2.out g2 _ (by exact hf2)).mono ?_;rintro r w4 ⟨rfl,hE4⟩;have x4:=x3.below hE4;have y4:=y3.below hE4;have b4:=b3.below hE4;clear e0 e1 e2 e3;have e0:=x4.c0;have e1:=x4.c1;have e2:=y4.c0;have e3:=y4.c1)
      | (go_at_call 39;refine (KB.out _).mono ?_;rintro r w5 ⟨rfl,hE5⟩;have x5:=x4.below hE5;have y5:=y4.below hE5;have b5:=b4.below hE5;clear e0 e1 e2 e3;have e0:=x5.c0;have e1:=x5.c1;have e2:=y5.c0;have e3:=y5.c1;have q0:=b5.c0;have q1:=b5.c1;have q2:=b5.f 0;have q3:=b5.f 1))
  have hB2:=((HB.out.trans (Below.mono (Below.refl _ W).drew (Nat.le_of_lt hx.lt))).trans (Below.mono hE1 (Nat.le_of_lt hx.drew.lt))).trans (Below.mono hE2 (Nat.le_of_lt x1.lt))
  have hB2:=((hB2.trans (Below.mono hE3 (Nat.le_of_lt x2.lt))).trans (Below.mono hE4 (Nat.le_of_lt x3.lt))).trans (Below.mono hE5 (Nat.le_of_lt x4.lt))
  have bx:=b5
  have hst:=bx.stored x y
  have z0:=hst.c0
  have z1:=hst.c1
  have HB:=Lib.hid (hB2.trans ((only_iset2 w5 (B+1+1) (.int .u64 x) (.int .u64 y)).below (by omega)))
  clear hst hB2
  go_wp2
  refine bodyPost_ret (v:=.agg #[.int .u64 x,.int .u64 y]) (by simp [results,Tryz.results49,go_sem,z0,z1]) rfl ⟨rfl,?_⟩
  show Below _ _ _
  rw [HBe.out]
  exact HB.out
set_option maxRecDepth 100000 in
set_option maxHeartbeats 8000000 in
theorem imul_full (a b c d:Nat) (x y:Int) (l1 l2:List Nat) (ha:a<18446744073709551616) (hb:b<18446744073709551616) (hc:c<18446744073709551616) (hd:d<18446744073709551616) (h1:validF a b=true) (h2:validF c d=true) (hf:SpanMulF a b c d x y l1 l2) (w:World) :
    Calls Tryz.prog 15 #[.agg #[.int .u64 (a:Int),.int .u64 (b:Int)],.agg #[.int .u64 (c:Int),.int .u64 (d:Int)]] w fun e w'=>e=.returned (.agg #[.int .u64 x,.int .u64 y])∧Ext w w':=by
  have C1:=Lib.hid (ivalid_at a b ha hb rfl rfl true h1)
  have C2:=Lib.hid (ivalid_at c d hc hd rfl rfl true h2)
  have C3:=Lib.hid (spanMul_any a b c d x y l1 l2 ha hb hc hd hf)
  clear h1 h2 ha hb hc hd hf
  go_enter Tryz.func15,Tryz.ntmps15
  go_wp2_with fail
  obtain ⟨W,hW,hB,hx,hy,hbx,hsz⟩:=ibox_three w a b c d 0 0
  rw [←hW]
  clear hW
  generalize hBe:w.heap.size=B at *
  have HBe:=Lib.hid hBe
  have HB:Hid (Below B w W):=Lib.hid (by rw [←hBe];exact hB)
  clear hBe hB hsz
  have c0:=hx.c0
  have c1:=hx.c1
  have c2:=hy.c0
  have c3:=hy.c1
  go_wp2_with fail
  refine (C1.out _).mono ?_
  rintro r w1 ⟨rfl,hE⟩
  have HB:=Lib.hid (HB.out.trans (Below.mono hE (Nat.le_of_lt hx.lt)))
  have hx:=hx.below hE
  have hy:=hy.below hE
  have hbx:=hbx.below hE
  clear c0 c1 c2 c3 hE
  have c0:=hx.c0
  have c1:=hx.c1
  have c2:=hy.c0
  have c3:=hy.c1
  go_wp2_with fail
  refine (C2.out _).mono ?_
  rintro r w2 ⟨rfl,hE⟩
  have HB:=Lib.hid (HB.out.trans (Below.mono hE (Nat.le_of_lt hx.lt)))
  have hx:=hx.below hE
  have hy:=hy.below hE
  have hbx:=hbx.below hE
  clear c0 c1 c2 c3 hE
  have c0:=hx.c0
  have c1:=hx.c1
  have c2:=hy.c0
  have c3:=hy.c1
  go_wp2_with fail
  refine (C3.out _).mono ?_
  rintro r w3 ⟨rfl,hE⟩
  have HB:=Lib.hid (HB.out.trans (Below.mono hE (Nat.le_of_lt hx.lt)))
  have hx:=hx.below hE
  have hy:=hy.below hE
  have hbx:=hbx.below hE
  clear c0 c1 c2 c3 hE
  have c0:=hx.c0
  have c1:=hx.c1
  have c2:=hy.c0
  have c3:=hy.c1
  have q0:=hbx.c0
  have q1:=hbx.c1
  have q2:=hbx.f 0
  have q3:=hbx.f 1
  have hst:=hbx.stored x y
  have z0:=hst.c0
  have z1:=hst.c1
  have HB:=Lib.hid (HB.out.trans ((only_iset2 w3 (B+1+1) (.int .u64 x) (.int .u64 y)).below (by omega)))
  clear hst
  go_wp2
  refine bodyPost_ret (v:=.agg #[.int .u64 x,.int .u64 y]) (by simp [results,Tryz.results15,go_sem,z0,z1]) rfl ⟨rfl,?_⟩
  show Below _ _ _
  rw [HBe.out]
  exact HB.out
end Go.Proofs.YtkomhemjodbkpaaGreatDoor
