import Derived.Test.YtkomhemjodbkpaaGreatDoorIExLawU9
import Derived.Test.YtkomhemjodbkpaaGreatDoorIExLawU21
import Derived.Test.YtkomhemjodbkpaaGreatDoorIExLawU16
import Derived.Test.YtkomhemjodbkpaaGreatDoorIExLawU22
import Derived.Test.YtkomhemjodbkpaaGreatDoorIExLawU17
import Derived.Test.YtkomhemjodbkpaaGreatDoorIExLawU42
import Derived.Test.YtkomhemjodbkpaaGreatDoorIExLawU43
import Derived.Test.YtkomhemjodbkpaaGreatDoorIExLawU44
import Derived.Test.YtkomhemjodbkpaaGreatDoorIExLawU46
import Derived.Test.YtkomhemjodbkpaaGreatDoorIExLawU30
import Derived.Test.YtkomhemjodbkpaaGreatDoorIExLawU25
import Derived.Test.YtkomhemjodbkpaaGreatDoorIExLawU13
import Derived.Deep.RegionHeld3
namespace Go.Proofs.YtkomhemjodbkpaaGreatDoor
open Go.RowKit
set_option maxRecDepth 100000 in
set_option maxHeartbeats 8000000 in
theorem cornDiv_any (a b c d:Nat) (mode:Int) (r1 r2 r3 r4:Nat) (ha:a<18446744073709551616) (hb:b<18446744073709551616) (hc:c<18446744073709551616) (hd:d<18446744073709551616) (h1:fdivF a c mode=r1) (h2:fdivF a d mode=r2) (h3:fdivF b c mode=r3) (h4:fdivF b d mode=r4)
    (hl:∀ x∈[r1,r2,r3,r4],x<18446744073709551616) (w:World) :
    Calls Tryz.prog 92 #[.func (.func 54) #[] #[],.agg #[.int .u64 (a:Int),.int .u64 (b:Int)],.agg #[.int .u64 (c:Int),.int .u64 (d:Int)],.int .i64 mode] w fun e w'=>∃ g,e=.returned (.slice (some ⟨g,0,none⟩) 4 4)∧FB w' g ([r1,r2,r3,r4].map nz)∧Ext w w':=by
  have C1:=Lib.hid (fdiv_any a c mode ha hc)
  have C2:=Lib.hid (fdiv_any a d mode ha hd)
  have C3:=Lib.hid (fdiv_any b c mode hb hc)
  have C4:=Lib.hid (fdiv_any b d mode hb hd)
  rw [h1] at C1
  rw [h2] at C2
  rw [h3] at C3
  rw [h4] at C4
  obtain ⟨lst,hlst⟩:∃ lst,[r1,r2,r3,r4]=lst:=⟨_,rfl⟩
  have hl4:lst.length=4:=by rw [←hlst];rfl
  rw [hlst] at hl ⊢
  have HQ:=Lib.hid hlst
  clear hlst
  have HL:=Lib.hid hl
  clear h1 h2 h3 h4 ha hb hc hd hl
  go_enter Tryz.func92,Tryz.ntmps92
  go_wp2_with fail
  obtain ⟨W,hW,hB,hx,hy,hsz⟩:=ibox_two w a b c d
  rw [←hW]
  clear hW
  have HB:=Lib.hid hB
  generalize w.heap.size=B at hx hy hsz ⊢
  clear hB
  have c0:=hx.c0
  have c1:=hx.c1
  have c2:=hy.c0
  have c3:=hy.c1
  go_region_held3 (fun wx=>wx.cell? ⟨B,0,none⟩=some (.int .u64 (a:Int))∧wx.cell? ⟨B,1,none⟩=some (.int .u64 (b:Int))∧wx.cell? ⟨B+1,0,none⟩=some (.int .u64 (c:Int))∧wx.cell? ⟨B+1,1,none⟩=some (.int .u64 (d:Int)))
    (first | exact ⟨c0,c1,c2,c3⟩ | exact ⟨x1.c0,x1.c1,y1.c0,y1.c1⟩ | exact ⟨x2.c0,x2.c1,y2.c0,y2.c1⟩ | exact ⟨x3.c0,x3.c1,y3.c0,y3.c1⟩ | exact ⟨x4.c0,x4.c1,y4.c0,y4.c1⟩ | exact ⟨(x4.below (ext_allocI w4 _)).c0,(x4.below (ext_allocI w4 _)).c1,(y4.below (ext_allocI w4 _)).c0,(y4.below (ext_allocI w4 _)).c1⟩)
    (first
      | (go_at_call 54;(with_reducible refine (C1.out _).mono ?_);rintro r w1 ⟨rfl,hE1⟩;have x1:=hx.drew.below hE1;have y1:=hy.drew.below hE1;have e0:=x1.c0;have e1:=x1.c1;have e2:=y1.c0;have e3:=y1.c1)
      | (go_at_call 54;(with_reducible refine (C2.out _).mono ?_);rintro r w2 ⟨rfl,hE2⟩;have x2:=x1.below hE2;have y2:=y1.below hE2;clear e0 e1 e2 e3;have e0:=x2.c0;have e1:=x2.c1;have e2:=y2.c0;have e3:=y2.c1)
      | (go_at_call 54;(with_reducible refine (C3.out _).mono ?_);rintro r w3 ⟨rfl,hE3⟩;have x3:=x2.below hE3;have y3:=y2.below hE3;clear e0 e1 e2 e3;have e0:=x3.c0;have e1:=x3.c1;have e2:=y3.c0;have e3:=y3.c1)
      | (go_at_call 54;(with_reducible refine (C4.out _).mono ?_);rintro r w4 ⟨rfl,hE4⟩;have x4:=x3.below hE4;have y4:=y3.below hE4;clear e0 e1 e2 e3;have e0:=x4.c0;have e1:=x4.c1;have e2:=y4.c0;have e3:=y4.c1))
  have HE4:=Lib.hid (Ext.trans HB.out (Ext.trans (Ext.trans (Ext.trans (Ext.trans (Below.refl W.heap.size W).drew hE1) hE2) hE3) hE4))
  have hgw:w.heap.size≤w4.heap.size:=Below.size HE4.out
  have hfb:=fb_new w4 r1 r2 r3 r4
  have hE5:=Lib.hid (Ext.trans HE4.out ((Below.refl _ w4).alloc (Nat.le_refl _) (.cells #[.int .u64 (r1:Int),.int .u64 (r2:Int),.int .u64 (r3:Int),.int .u64 (r4:Int)] 23)))
  clear hE1 hE2 hE3 hE4 x1 x2 x3 x4 y1 y2 y3 y4 hx hy
  go_upto_region 2 with fail
  generalize w4.alloc (.cells #[.int .u64 (r1:Int),.int .u64 (r2:Int),.int .u64 (r3:Int),.int .u64 (r4:Int)] 23)=V at *
  generalize w4.heap.size=g at *
  go_wp2
  have hgB:g<V.heap.size:=hfb.lt
  have hVe:Ext w V:=hE5.out
  have hfb0:FB V g (([r1,r2,r3,r4].map nz).take 0++[r1,r2,r3,r4].drop 0):=hfb
  rw [HQ.out] at hfb0
  clear hfb hE5 HE4
  go_loopw [10,11,43] (fun _ _ k wr=>∃ j:Nat,j≤4∧k=.int .i64 (j:Int)∧FB wr g ((lst.map nz).take j++lst.drop j)∧Ext w wr) (fun _ _ k _=>4 - (intOf k).toNat)
  case atStart=>exact ⟨0,Nat.zero_le _,rfl,hfb0,hVe⟩
  case round =>
    obtain ⟨j,hj,rfl,hfb,hVe⟩:=hrel
    by_cases hlt:j<4
    · obtain ⟨hg1,hg2⟩:=corn_next (l:=lst) (j:=j) (by rw [hl4];exact hlt)
      have hcell:=hfb.cell j (by simp [hl4];omega)
      have hfz:=hfb.f j
      have hxl:=getD_lt HL.out j
      rw [hg1] at hcell
      obtain ⟨x,hxe⟩:∃ x,lst.getD j 0=x:=⟨_,rfl⟩
      rw [hxe] at hcell hxl hg2
      obtain ⟨k,hk⟩:∃ k,fkind x=k:=⟨_,rfl⟩
      have CK:=Lib.hid (kind_at2 x hxl k hk)
      by_cases hn:nanB x=true
      · have hk3:(k == 3)=true:=by rw [beq_iff_eq,←hk];exact kind_nan2 hn
        have hz:nz x=0:=by unfold nz;rw [hn];rfl
        have hset:=hfb.set j 0
        rw [hz] at hg2
        rw [hg2.1] at hset
        have ho:Only g wr (wr.setCell ⟨g,j,none⟩ (.int .u64 ((0:Nat):Int))):=(Only.refl g wr).setCell _ _
        have hE3:Ext w (wr.setCell ⟨g,j,none⟩ (.int .u64 ((0:Nat):Int))):=Below.trans hVe (ho.below hgw)
        have R:=Lib.hid (And.intro hset hE3)
        clear hxe hxl hn hk hg1 hg2 hset hE3 ho hfb
        go_wp2_with fail
        refine (CK.out _).mono ?_
        rintro r w9 ⟨rfl,rfl⟩
        go_wp2
        go_roundw
        case rel=>exact ⟨j+1,by omega,by go_num,R.out.1,R.out.2⟩
        case measure=>simp [intOf] <;> omega
      · have hn0:nanB x=false:=by cases h:nanB x with
          | true=>exact absurd h hn
          | false=>rfl
        have hk3:(k == 3)=false:=by rw [beq_eq_false_iff_ne,←hk];exact kind_num2 hn0
        have hz:nz x=x:=by unfold nz;rw [hn0];rfl
        rw [hz] at hg2
        rw [hg2.2 rfl] at hfb
        have R:=Lib.hid (And.intro hfb hVe)
        clear hxe hxl hn hn0 hk hg1 hg2 hz hfb hVe
        go_wp2_with fail
        refine (CK.out _).mono ?_
        rintro r w9 ⟨rfl,rfl⟩
        go_wp2
        go_roundw
        case rel=>exact ⟨j+1,by omega,by go_num,R.out.1,R.out.2⟩
        case measure=>simp [intOf] <;> omega
    · obtain rfl:j=4:=by omega
      have hend:(lst.map nz).take 4++lst.drop 4=lst.map nz:=by
        rw [List.drop_of_length_le (by omega),List.take_of_length_le (by simp [hl4]),List.append_nil]
      rw [hend] at hfb
      have R:=Lib.hid (And.intro hfb hVe)
      go_wp2
      go_ret
      exact ⟨g,rfl,R.out.1,R.out.2⟩
structure SpanDivF (a b c d:Nat) (x y:Int) (l1 l2:List Nat):Prop where
  e1:l1 = [fdivF a c 1,fdivF a d 1,fdivF b c 1,fdivF b d 1].map nz
  e2:l2 = [fdivF a c 2,fdivF a d 2,fdivF b c 2,fdivF b d 2].map nz
  n1:∀ x∈[fdivF a c 1,fdivF a d 1,fdivF b c 1,fdivF b d 1],x<18446744073709551616
  n2:∀ x∈[fdivF a c 2,fdivF a d 2,fdivF b c 2,fdivF b d 2],x<18446744073709551616
  hx:((plainF (leastF l1):Nat):Int)=x
  hy:((plainF (greatF l2):Nat):Int)=y
theorem cornDiv_at (a b c d:Nat) (mode:Int) (l:List Nat) (ha:a<18446744073709551616) (hb:b<18446744073709551616) (hc:c<18446744073709551616) (hd:d<18446744073709551616) (h:l = [fdivF a c mode,fdivF a d mode,fdivF b c mode,fdivF b d mode].map nz) (hl:∀ x∈[fdivF a c mode,fdivF a d mode,fdivF b c mode,fdivF b d mode],x<18446744073709551616) (w:World) :
    Calls Tryz.prog 92 #[.func (.func 54) #[] #[],.agg #[.int .u64 (a:Int),.int .u64 (b:Int)],.agg #[.int .u64 (c:Int),.int .u64 (d:Int)],.int .i64 mode] w fun e w'=>∃ g,e=.returned (.slice (some ⟨g,0,none⟩) 4 4)∧FB w' g l∧Ext w w':=by
  subst h
  exact cornDiv_any a b c d mode _ _ _ _ ha hb hc hd rfl rfl rfl rfl hl w
set_option maxRecDepth 100000 in
set_option maxHeartbeats 8000000 in
theorem spanDiv_any (a b c d:Nat) (x y:Int) (l1 l2:List Nat) (ha:a<18446744073709551616) (hb:b<18446744073709551616) (hc:c<18446744073709551616) (hd:d<18446744073709551616) (hf:SpanDivF a b c d x y l1 l2) (w:World) :
    Calls Tryz.prog 49 #[.func (.func 54) #[] #[],.agg #[.int .u64 (a:Int),.int .u64 (b:Int)],.agg #[.int .u64 (c:Int),.int .u64 (d:Int)]] w fun e w'=>e=.returned (.agg #[.int .u64 x,.int .u64 y])∧Ext w w':=by
  have K1:=Lib.hid (cornDiv_at a b c d 1 l1 ha hb hc hd hf.e1 hf.n1)
  have K2:=Lib.hid (cornDiv_at a b c d 2 l2 ha hb hc hd hf.e2 hf.n2)
  have L1:=Lib.hid (fun g w h=>least_any g l1 4 (by rw [hf.e1];rfl) (by omega) (nz_lt hf.e1 hf.n1) w h)
  have L2:=Lib.hid (fun g w h=>greatest_any g l2 4 (by rw [hf.e2];rfl) (by omega) (nz_lt hf.e2 hf.n2) w h)
  have KB:=Lib.hid (between_any (leastF l1) (greatF l2))
  rw [hf.hx,hf.hy] at KB
  generalize leastF l1=m1 at *
  generalize greatF l2=m2 at *
  clear hf ha hb hc hd
  go_enter Tryz.func49,Tryz.ntmps49
  go_wp2_with fail
  obtain ⟨W,hW,hB,hx,hy,hbx,hsz⟩:=ibox_three w a b c d 0 0
  rw [←hW]
  clear hW
  generalize hBe:w.heap.size=B at *
  have HBe:=Lib.hid hBe
  have HB:Hid (Below B w W):=Lib.hid (by rw [←hBe];exact hB)
  clear hBe hB
  have c0:=hx.c0
  have c1:=hx.c1
  have c2:=hy.c0
  have c3:=hy.c1
  have TAG:=Lib.hid trivial
  go_region_held3 (fun wx=>wx.cell? ⟨B,0,none⟩=some (.int .u64 (a:Int))∧wx.cell? ⟨B,1,none⟩=some (.int .u64 (b:Int))∧wx.cell? ⟨B+1,0,none⟩=some (.int .u64 (c:Int))∧wx.cell? ⟨B+1,1,none⟩=some (.int .u64 (d:Int)))
    (first | exact ⟨c0,c1,c2,c3⟩ | exact ⟨x1.c0,x1.c1,y1.c0,y1.c1⟩ | exact ⟨x2.c0,x2.c1,y2.c0,y2.c1⟩ | exact ⟨x3.c0,x3.c1,y3.c0,y3.c1⟩ | exact ⟨x4.c0,x4.c1,y4.c0,y4.c1⟩ | exact ⟨x5.c0,x5.c1,y5.c0,y5.c1⟩ | (refine ⟨?_,?_,?_,?_⟩ <;> go_simp))
    (first
      | (go_at_call 92;(with_reducible refine (K1.out _).mono ?_);rintro r w1 ⟨g1,rfl,hf1,hE1⟩;have x1:=hx.drew.below hE1;have y1:=hy.drew.below hE1;have b1:=hbx.drew.below hE1;have e0:=x1.c0;have e1:=x1.c1;have e2:=y1.c0;have e3:=y1.c1)
      | (go_at_call 63;refine (L1.out g1 _ (by exact hf1)).mono ?_;rintro r w2 ⟨rfl,hE2⟩;have x2:=x1.below hE2;have y2:=y1.below hE2;have b2:=b1.below hE2;clear e0 e1 e2 e3;have e0:=x2.c0;have e1:=x2.c1;have e2:=y2.c0;have e3:=y2.c1)
      | (go_at_call 92;(with_reducible refine (K2.out _).mono ?_);rintro r w3 ⟨g2,rfl,hf2,hE3⟩;have x3:=x2.below hE3;have y3:=y2.below hE3;have b3:=b2.below hE3;clear e0 e1 e2 e3;have e0:=x3.c0;have e1:=x3.c1;have e2:=y3.c0;have e3:=y3.c1)
      | (go_at_call 60;refine (L2.out g2 _ (by exact hf2)).mono ?_;rintro r w4 ⟨rfl,hE4⟩;have x4:=x3.below hE4;have y4:=y3.below hE4;have b4:=b3.below hE4;clear e0 e1 e2 e3;have e0:=x4.c0;have e1:=x4.c1;have e2:=y4.c0;have e3:=y4.c1)
      | (go_at_call 39;refine (KB.out _).mono ?_;rintro r w5 ⟨rfl,hE5⟩;have x5:=x4.below hE5;have y5:=y4.below hE5;have b5:=b4.below hE5;clear e0 e1 e2 e3;have e0:=x5.c0;have e1:=x5.c1;have e2:=y5.c0;have e3:=y5.c1;have q0:=b5.c0;have q1:=b5.c1;have q2:=b5.f 0;have q3:=b5.f 1))
  have hB2:=((HB.out.trans (Below.mono (Below.refl _ W).drew (Nat.le_of_lt hx.lt))).trans (Below.mono hE1 (Nat.le_of_lt hx.drew.lt))).trans (Below.mono hE2 (Nat.le_of_lt x1.lt))
  have hB2:=((hB2.trans (Below.mono hE3 (Nat.le_of_lt x2.lt))).trans (Below.mono hE4 (Nat.le_of_lt x3.lt))).trans (Below.mono hE5 (Nat.le_of_lt x4.lt))
  have bx:=b5
  have hst:=bx.stored x y
  have z0:=hst.c0
  have z1:=hst.c1
  have HB:=Lib.hid (hB2.trans ((only_iset2 w5 (B+1+1) (.int .u64 x) (.int .u64 y)).below (by omega)))
  clear hst hB2
  go_wp2
  refine bodyPost_ret (v:=.agg #[.int .u64 x,.int .u64 y]) (by simp [results,Tryz.results49,go_sem,z0,z1]) rfl ⟨rfl,?_⟩
  show Below _ _ _
  rw [HBe.out]
  exact HB.out
set_option maxRecDepth 100000 in
set_option maxHeartbeats 8000000 in
theorem idiv_full (a b c d:Nat) (x y:Int) (l1 l2:List Nat) (ha:a<18446744073709551616) (hb:b<18446744073709551616) (hc:c<18446744073709551616) (hd:d<18446744073709551616) (h1:validF a b=true) (h2:validF c d=true) (h3:containsF c d=false) (hf:SpanDivF a b c d x y l1 l2) (w:World) :
    Calls Tryz.prog 17 #[.agg #[.int .u64 (a:Int),.int .u64 (b:Int)],.agg #[.int .u64 (c:Int),.int .u64 (d:Int)]] w fun e w'=>e=.returned (.agg #[.int .u64 x,.int .u64 y])∧Ext w w':=by
  have C1:=Lib.hid (ivalid_at a b ha hb rfl rfl true h1)
  have C2:=Lib.hid (ivalid_at c d hc hd rfl rfl true h2)
  have CZ:=Lib.hid (contains_any c d hc hd)
  rw [h3] at CZ
  have C3:=Lib.hid (spanDiv_any a b c d x y l1 l2 ha hb hc hd hf)
  clear h1 h2 h3 ha hb hc hd hf
  go_enter Tryz.func17,Tryz.ntmps17
  go_wp2_with fail
  obtain ⟨W,hW,hB,hx,hy,hbx,hsz⟩:=ibox_three w a b c d 0 0
  rw [←hW]
  clear hW
  generalize hBe:w.heap.size=B at *
  have HBe:=Lib.hid hBe
  have HB:Hid (Below B w W):=Lib.hid (by rw [←hBe];exact hB)
  clear hBe hB hsz
  have c0:=hx.c0
  have c1:=hx.c1
  have c2:=hy.c0
  have c3:=hy.c1
  go_wp2_with fail
  refine (C1.out _).mono ?_
  rintro r w1 ⟨rfl,hE⟩
  have HB:=Lib.hid (HB.out.trans (Below.mono hE (Nat.le_of_lt hx.lt)))
  have hx:=hx.below hE
  have hy:=hy.below hE
  have hbx:=hbx.below hE
  clear c0 c1 c2 c3 hE
  have c0:=hx.c0
  have c1:=hx.c1
  have c2:=hy.c0
  have c3:=hy.c1
  go_wp2_with fail
  refine (C2.out _).mono ?_
  rintro r w2 ⟨rfl,hE⟩
  have HB:=Lib.hid (HB.out.trans (Below.mono hE (Nat.le_of_lt hx.lt)))
  have hx:=hx.below hE
  have hy:=hy.below hE
  have hbx:=hbx.below hE
  clear c0 c1 c2 c3 hE
  have c0:=hx.c0
  have c1:=hx.c1
  have c2:=hy.c0
  have c3:=hy.c1
  go_wp2_with fail
  refine (CZ.out _).mono ?_
  rintro r w2' ⟨rfl,hE⟩
  have HB:=Lib.hid (HB.out.trans (Below.mono hE (Nat.le_of_lt hx.lt)))
  have hx:=hx.below hE
  have hy:=hy.below hE
  have hbx:=hbx.below hE
  clear c0 c1 c2 c3 hE
  have c0:=hx.c0
  have c1:=hx.c1
  have c2:=hy.c0
  have c3:=hy.c1
  go_wp2_with fail
  refine (C3.out _).mono ?_
  rintro r w3 ⟨rfl,hE⟩
  have HB:=Lib.hid (HB.out.trans (Below.mono hE (Nat.le_of_lt hx.lt)))
  have hx:=hx.below hE
  have hy:=hy.below hE
  have hbx:=hbx.below hE
  clear c0 c1 c2 c3 hE
  have c0:=hx.c0
  have c1:=hx.c1
  have c2:=hy.c0
  have c3:=hy.c1
  have q0:=hbx.c0
  have q1:=hbx.c1
  have q2:=hbx.f 0
  have q3:=hbx.f 1
  have hst:=hbx.stored x y
  have z0:=hst.c0
  have z1:=hst.c1
  have HB:=Lib.hid (HB.out.trans ((only_iset2 w3 (B+1+1) (.int .u64 x) (.int .u64 y)).below (by omega)))
  clear hst
  go_wp2
  refine bodyPost_ret (v:=.agg #[.int .u64 x,.int .u64 y]) (by simp [results,Tryz.results17,go_sem,z0,z1]) rfl ⟨rfl,?_⟩
  show Below _ _ _
  rw [HBe.out]
  exact HB.out
open Go.RowKit
theorem ext_drewB' (w:World):Ext w w.drew:=(Below.refl _ _).drew
open Go.RowKit
theorem lit_facts:finB 4607182418800017408=true∧plainF 4607182418800017408=4607182418800017408∧finB 4611686018427387904=true∧plainF 4611686018427387904=4611686018427387904∧validF 4607182418800017408 4607182418800017408=true∧validF 4607182418800017408 4611686018427387904=true∧validF 4611686018427387904 4607182418800017408=false∧subF 4607182418800017408 4607182418800017408 4607182418800017408 4611686018427387904=true∧plainF (faddF 4607182418800017408 4607182418800017408 1)=4611686018427387904∧plainF (faddF 4607182418800017408 4607182418800017408 2)=4611686018427387904:=by decide +kernel
theorem lit_mul:MulF 4607182418800017408 4607182418800017408 4607182418800017408 4611686018427387904 4607182418800017408 4611686018427387904 [4607182418800017408,4611686018427387904,4607182418800017408,4611686018427387904] [4607182418800017408,4611686018427387904,4607182418800017408,4611686018427387904] :=
  ⟨by decide +kernel,by decide +kernel,by decide +kernel,by decide +kernel,by decide +kernel,by decide +kernel⟩
set_option maxRecDepth 100000 in
set_option maxHeartbeats 8000000 in
theorem iawake_any (w:World):Calls Tryz.prog 25 #[] w fun e w'=>e=.returned (.bool true)∧Ext w w':=by
  obtain ⟨f1,f2,f3,f4,f5,f6,f7,f8,f9,f10⟩:=lit_facts
  have P1:∀ w,Calls Tryz.prog 7 #[.int .u64 4607182418800017408] w fun e w'=>e=.returned (.agg #[.int .u64 4607182418800017408,.int .u64 4607182418800017408])∧Ext w w':=point_any 4607182418800017408 (by decide) _ (by rw [f1,f2];rfl)
  have P2:∀ w,Calls Tryz.prog 7 #[.int .u64 4611686018427387904] w fun e w'=>e=.returned (.agg #[.int .u64 4611686018427387904,.int .u64 4611686018427387904])∧Ext w w':=point_any 4611686018427387904 (by decide) _ (by rw [f3,f4];rfl)
  have CA:∀ w,Calls Tryz.prog 11 #[.agg #[.int .u64 4607182418800017408,.int .u64 4607182418800017408],.agg #[.int .u64 4607182418800017408,.int .u64 4607182418800017408]] w fun e w'=>e=.returned (.agg #[.int .u64 4611686018427387904,.int .u64 4611686018427387904])∧Ext w w':=by
    intro w
    have:=iadd_yes 4607182418800017408 4607182418800017408 4607182418800017408 4607182418800017408 (by decide) (by decide) (by decide) (by decide) f5 f5 w
    rw [f9,f10] at this
    exact this
  have CM:∀ w,Calls Tryz.prog 15 #[.agg #[.int .u64 4607182418800017408,.int .u64 4607182418800017408],.agg #[.int .u64 4607182418800017408,.int .u64 4611686018427387904]] w fun e w'=>e=.returned (.agg #[.int .u64 4607182418800017408,.int .u64 4611686018427387904])∧Ext w w':=imul_yes 4607182418800017408 4607182418800017408 4607182418800017408 4611686018427387904 4607182418800017408 4611686018427387904 _ _ (by decide) (by decide) (by decide) (by decide) f5 f6 lit_mul
  have V1:∀ w,Calls Tryz.prog 5 #[.agg #[.int .u64 4607182418800017408,.int .u64 4611686018427387904]] w fun e w'=>e=.returned (.bool true)∧Ext w w':=ivalid_at 4607182418800017408 4611686018427387904 (by decide) (by decide) rfl rfl true f6
  have V2:∀ w,Calls Tryz.prog 5 #[.agg #[.int .u64 4611686018427387904,.int .u64 4607182418800017408]] w fun e w'=>e=.returned (.bool false)∧Ext w w':=ivalid_at 4611686018427387904 4607182418800017408 (by decide) (by decide) rfl rfl false f7
  have CS:∀ w,Calls Tryz.prog 64 #[.agg #[.int .u64 4607182418800017408,.int .u64 4607182418800017408],.agg #[.int .u64 4607182418800017408,.int .u64 4611686018427387904]] w fun e w'=>e=.returned (.bool true)∧Ext w w':=subset_yes 4607182418800017408 4607182418800017408 4607182418800017408 4611686018427387904 (by decide) (by decide) (by decide) (by decide) f8
  have P1:=Lib.hid P1;have P2:=Lib.hid P2;have CA:=Lib.hid CA;have CM:=Lib.hid CM;have V1:=Lib.hid V1;have V2:=Lib.hid V2;have CS:=Lib.hid CS
  clear f1 f2 f3 f4 f5 f6 f7 f8 f9 f10
  go_enter Tryz.func25,Tryz.ntmps25
  go_wp2_with fail
  refine (P1.out _).mono ?_
  rintro r w1 ⟨rfl,hE1⟩
  go_upto_region 3 with fail
  obtain ⟨W,hW,hB,hx,hy,hsz⟩:=ibox_two w1 4607182418800017408 4607182418800017408 4607182418800017408 4611686018427387904
  rw [←hW]
  clear hW
  have HB:=Lib.hid (Ext.trans hE1 hB)
  generalize w1.heap.size=B at hx hy ⊢
  clear hB hsz hE1
  have HC:=Lib.hid (show ∀ wx,Ext W wx→(wx.cell? ⟨B,0,none⟩=some (.int .u64 4607182418800017408)∧wx.cell? ⟨B,1,none⟩=some (.int .u64 4607182418800017408))∧(wx.cell? ⟨B+1,0,none⟩=some (.int .u64 4607182418800017408)∧wx.cell? ⟨B+1,1,none⟩=some (.int .u64 4611686018427387904)) from fun wx h=>⟨⟨(hx.below h).c0,(hx.below h).c1⟩,(hy.below h).c0,(hy.below h).c1⟩)
  obtain ⟨⟨c0,c1⟩,c2,c3⟩:=HC.out W (Ext.refl _)
  have st:Ext W W.drew:=ext_drewB' _
  go_region_held3 (fun wx=>(wx.cell? ⟨B,0,none⟩=some (.int .u64 4607182418800017408)∧wx.cell? ⟨B,1,none⟩=some (.int .u64 4607182418800017408))∧(wx.cell? ⟨B+1,0,none⟩=some (.int .u64 4607182418800017408)∧wx.cell? ⟨B+1,1,none⟩=some (.int .u64 4611686018427387904)))
    (first | exact HC.out _ (by assumption))
    (first
      | (go_at_call 11;(with_reducible refine (CA.out _).mono ?_);rintro r wn ⟨rfl,hE⟩;have st:Ext W wn:=Ext.trans (by assumption) hE;clear hE)
      | (go_at_call 7;(with_reducible refine (P2.out _).mono ?_);rintro r wn ⟨rfl,hE⟩;have st:Ext W wn:=Ext.trans (by assumption) hE;clear hE)
      | (go_at_call 15;(with_reducible refine (CM.out _).mono ?_);rintro r wn ⟨rfl,hE⟩;have st:Ext W wn:=Ext.trans (by assumption) hE;clear hE)
      | (go_at_call 5;(with_reducible refine (V1.out _).mono ?_);rintro r wn ⟨rfl,hE⟩;have st:Ext W wn:=Ext.trans (by assumption) hE;clear hE)
      | (go_at_call 5;(with_reducible refine (V2.out _).mono ?_);rintro r wn ⟨rfl,hE⟩;have st:Ext W wn:=Ext.trans (by assumption) hE;clear hE)
      | (go_at_call 64;(with_reducible refine (CS.out _).mono ?_);rintro r wn ⟨rfl,hE⟩;have st:Ext W wn:=Ext.trans (by assumption) hE;clear hE))
  go_wp2
  go_ret
  exact ⟨rfl,Ext.trans HB.out (by assumption)⟩
open Go.RowKit
theorem four_lt {f:Nat→Nat→Nat} {p q r s p' q' r' s':Nat} (h:∀ x y,f x y<18446744073709551616):∀ x∈[f p p',f q q',f r r',f s s'],x<18446744073709551616:=by
  intro x hx
  simp only [List.mem_cons,List.not_mem_nil,or_false] at hx
  rcases hx with rfl | rfl | rfl | rfl <;> exact h _ _
theorem holds_no {c d:Nat} (g:Good c d) (h:0<frank c∨frank d<0):containsF c d=false:=by
  unfold containsF
  rw [less_rank (by decide) g.n1,less_rank g.n2 (by decide),show frank 0=0 from by decide]
  rcases h with h | h
  · rw [decide_eq_true h];rfl
  · rw [decide_eq_true h];simp
theorem point_two (f:Nat):∃ x y:Int,(if finB f then .agg #[.int .u64 ((plainF f:Nat):Int),.int .u64 ((plainF f:Nat):Int)] else wholeV)=Value.agg #[.int .u64 x,.int .u64 y]:=by
  split
  · exact ⟨_,_,rfl⟩
  · exact ⟨_,_,rfl⟩
theorem exNeg_any (a b:Nat) (ha:a<18446744073709551616) (hb:b<18446744073709551616):∃ x y:Int,(∀ w,Calls Tryz.prog 9 #[.agg #[.int .u64 (a:Int),.int .u64 (b:Int)]] w fun e w'=>e=.returned (.agg #[.int .u64 x,.int .u64 y])∧Ext w w')∧(∀ w,Table w→Calls Tryz.prog 10 #[.agg #[.int .u64 (a:Int),.int .u64 (b:Int)]] w fun e w'=>e=.returned (.agg #[.int .u64 x,.int .u64 y])∧Ext w w'):=by
  cases h1:validF a b with
  | false=>exact ⟨_,_,fun w=>ineg_no a b ha hb h1 w,fun w _=>refNeg_no a b ha hb h1 w⟩
  | true =>
    have g:=Good.of ha hb h1
    exact ⟨_,_,fun w=>ineg_yes a b ha hb h1 w,fun w _=>refNeg_yes a b g w⟩
theorem exSqr_any (a b:Nat) (ha:a<18446744073709551616) (hb:b<18446744073709551616):∃ x y:Int,(∀ w,Calls Tryz.prog 19 #[.agg #[.int .u64 (a:Int),.int .u64 (b:Int)]] w fun e w'=>e=.returned (.agg #[.int .u64 x,.int .u64 y])∧Ext w w')∧(∀ w,Table w→Calls Tryz.prog 20 #[.agg #[.int .u64 (a:Int),.int .u64 (b:Int)]] w fun e w'=>e=.returned (.agg #[.int .u64 x,.int .u64 y])∧Ext w w'):=by
  cases h1:validF a b with
  | false=>exact ⟨_,_,fun w=>isqr_no a b ha hb h1 w,fun w _=>refSqr_no a b ha hb h1 w⟩
  | true =>
    have g:=Good.of ha hb h1
    obtain ⟨e1,e2⟩:=sq_same g
    refine ⟨_,_,fun w=>isqr_yes a b ha hb h1 w,fun w hT=>?_⟩
    rw [←e1,←e2]
    exact refSqr_raw a b g w hT
theorem exSqrt_any (a b:Nat) (ha:a<18446744073709551616) (hb:b<18446744073709551616):∃ x y:Int,(∀ w,Calls Tryz.prog 21 #[.agg #[.int .u64 (a:Int),.int .u64 (b:Int)]] w fun e w'=>e=.returned (.agg #[.int .u64 x,.int .u64 y])∧Ext w w')∧(∀ w,Table w→Calls Tryz.prog 22 #[.agg #[.int .u64 (a:Int),.int .u64 (b:Int)]] w fun e w'=>e=.returned (.agg #[.int .u64 x,.int .u64 y])∧Ext w w'):=by
  cases h1:validF a b with
  | false=>exact ⟨_,_,fun w=>isqrt_no a b ha hb h1 w,fun w _=>refSqrt_no a b ha hb h1 w⟩
  | true =>
    have g:=Good.of ha hb h1
    have hs:=(sgN_iff g.nm.2).2
    by_cases h0:0≤frank b
    · obtain ⟨e1,e2⟩:=root_same g
      exact ⟨_,_,fun w=>isqrt_yes a b g h0 w,fun w hT=>refISqrt_yes a b g (by omega) _ _ e1 e2 w hT⟩
    · exact ⟨_,_,fun w=>isqrt_neg a b g (by omega) w,fun w hT=>refISqrt_neg a b g (by omega) w hT⟩
theorem exAdd_any (a b c d:Nat) (ha:a<18446744073709551616) (hb:b<18446744073709551616) (hc:c<18446744073709551616) (hd:d<18446744073709551616):∃ x y:Int,(∀ w,Calls Tryz.prog 11 #[.agg #[.int .u64 (a:Int),.int .u64 (b:Int)],.agg #[.int .u64 (c:Int),.int .u64 (d:Int)]] w fun e w'=>e=.returned (.agg #[.int .u64 x,.int .u64 y])∧Ext w w')∧(∀ w,Table w→Calls Tryz.prog 12 #[.agg #[.int .u64 (a:Int),.int .u64 (b:Int)],.agg #[.int .u64 (c:Int),.int .u64 (d:Int)]] w fun e w'=>e=.returned (.agg #[.int .u64 x,.int .u64 y])∧Ext w w'):=by
  have no:validF a b=false∨validF c d=false→∃ x y:Int,(∀ w,Calls Tryz.prog 11 #[.agg #[.int .u64 (a:Int),.int .u64 (b:Int)],.agg #[.int .u64 (c:Int),.int .u64 (d:Int)]] w fun e w'=>e=.returned (.agg #[.int .u64 x,.int .u64 y])∧Ext w w')∧(∀ w,Table w→Calls Tryz.prog 12 #[.agg #[.int .u64 (a:Int),.int .u64 (b:Int)],.agg #[.int .u64 (c:Int),.int .u64 (d:Int)]] w fun e w'=>e=.returned (.agg #[.int .u64 x,.int .u64 y])∧Ext w w'):=fun h=>⟨_,_,fun w=>iadd_no a b c d ha hb hc hd h w,fun w _=>refAdd_no a b c d ha hb hc hd h w⟩
  cases h1:validF a b with
  | false=>exact no (Or.inl h1)
  | true =>
    cases h2:validF c d with
    | false=>exact no (Or.inr h2)
    | true =>
      have g:=Good.of ha hb h1
      have g':=Good.of hc hd h2
      exact ⟨_,_,fun w=>iadd_yes a b c d ha hb hc hd h1 h2 w,fun w hT=>refAdd_yes a b c d g g' w hT⟩
theorem exSub_any (a b c d:Nat) (ha:a<18446744073709551616) (hb:b<18446744073709551616) (hc:c<18446744073709551616) (hd:d<18446744073709551616):∃ x y:Int,(∀ w,Calls Tryz.prog 13 #[.agg #[.int .u64 (a:Int),.int .u64 (b:Int)],.agg #[.int .u64 (c:Int),.int .u64 (d:Int)]] w fun e w'=>e=.returned (.agg #[.int .u64 x,.int .u64 y])∧Ext w w')∧(∀ w,Table w→Calls Tryz.prog 14 #[.agg #[.int .u64 (a:Int),.int .u64 (b:Int)],.agg #[.int .u64 (c:Int),.int .u64 (d:Int)]] w fun e w'=>e=.returned (.agg #[.int .u64 x,.int .u64 y])∧Ext w w'):=by
  have no:validF a b=false∨validF c d=false→∃ x y:Int,(∀ w,Calls Tryz.prog 13 #[.agg #[.int .u64 (a:Int),.int .u64 (b:Int)],.agg #[.int .u64 (c:Int),.int .u64 (d:Int)]] w fun e w'=>e=.returned (.agg #[.int .u64 x,.int .u64 y])∧Ext w w')∧(∀ w,Table w→Calls Tryz.prog 14 #[.agg #[.int .u64 (a:Int),.int .u64 (b:Int)],.agg #[.int .u64 (c:Int),.int .u64 (d:Int)]] w fun e w'=>e=.returned (.agg #[.int .u64 x,.int .u64 y])∧Ext w w'):=fun h=>⟨_,_,fun w=>isub_no a b c d ha hb hc hd h w,fun w _=>refSub_no a b c d ha hb hc hd h w⟩
  cases h1:validF a b with
  | false=>exact no (Or.inl h1)
  | true =>
    cases h2:validF c d with
    | false=>exact no (Or.inr h2)
    | true =>
      have g:=Good.of ha hb h1
      have g':=Good.of hc hd h2
      exact ⟨_,_,fun w=>isub_yes a b c d ha hb hc hd h1 h2 w,fun w hT=>refSub_yes a b c d g g' w hT⟩
theorem exMul_any (a b c d:Nat) (ha:a<18446744073709551616) (hb:b<18446744073709551616) (hc:c<18446744073709551616) (hd:d<18446744073709551616):∃ x y:Int,(∀ w,Calls Tryz.prog 15 #[.agg #[.int .u64 (a:Int),.int .u64 (b:Int)],.agg #[.int .u64 (c:Int),.int .u64 (d:Int)]] w fun e w'=>e=.returned (.agg #[.int .u64 x,.int .u64 y])∧Ext w w')∧(∀ w,Table w→Calls Tryz.prog 16 #[.agg #[.int .u64 (a:Int),.int .u64 (b:Int)],.agg #[.int .u64 (c:Int),.int .u64 (d:Int)]] w fun e w'=>e=.returned (.agg #[.int .u64 x,.int .u64 y])∧Ext w w'):=by
  have no:validF a b=false∨validF c d=false→∃ x y:Int,(∀ w,Calls Tryz.prog 15 #[.agg #[.int .u64 (a:Int),.int .u64 (b:Int)],.agg #[.int .u64 (c:Int),.int .u64 (d:Int)]] w fun e w'=>e=.returned (.agg #[.int .u64 x,.int .u64 y])∧Ext w w')∧(∀ w,Table w→Calls Tryz.prog 16 #[.agg #[.int .u64 (a:Int),.int .u64 (b:Int)],.agg #[.int .u64 (c:Int),.int .u64 (d:Int)]] w fun e w'=>e=.returned (.agg #[.int .u64 x,.int .u64 y])∧Ext w w'):=fun h=>⟨_,_,fun w=>imul_no a b c d ha hb hc hd h w,fun w _=>refMul_no a b c d ha hb hc hd h w⟩
  cases h1:validF a b with
  | false=>exact no (Or.inl h1)
  | true =>
    cases h2:validF c d with
    | false=>exact no (Or.inr h2)
    | true =>
      have g:=Good.of ha hb h1
      have g':=Good.of hc hd h2
      obtain ⟨e1,e2⟩:=mul_same g g'
      refine ⟨_,_,fun w=>imul_full a b c d _ _ _ _ ha hb hc hd h1 h2 ⟨rfl,rfl,four_lt (f:=fun x y=>fmulF x y 1) fun _ _=>fmul_lt2 _ _ _,four_lt (f:=fun x y=>fmulF x y 2) fun _ _=>fmul_lt2 _ _ _,rfl,rfl⟩ w,fun w hT=>?_⟩
      show Calls _ _ _ _ fun e w'=>e=.returned (.agg #[.int .u64 ((plainF (cornLo fmulF a b c d):Nat):Int),.int .u64 ((plainF (cornHi fmulF a b c d):Nat):Int)])∧Ext w w'
      rw [←e1,←e2]
      exact refMul_raw a b c d g g' w hT
theorem exDiv_any (a b c d:Nat) (ha:a<18446744073709551616) (hb:b<18446744073709551616) (hc:c<18446744073709551616) (hd:d<18446744073709551616):∃ x y:Int,(∀ w,Calls Tryz.prog 17 #[.agg #[.int .u64 (a:Int),.int .u64 (b:Int)],.agg #[.int .u64 (c:Int),.int .u64 (d:Int)]] w fun e w'=>e=.returned (.agg #[.int .u64 x,.int .u64 y])∧Ext w w')∧(∀ w,Table w→Calls Tryz.prog 18 #[.agg #[.int .u64 (a:Int),.int .u64 (b:Int)],.agg #[.int .u64 (c:Int),.int .u64 (d:Int)]] w fun e w'=>e=.returned (.agg #[.int .u64 x,.int .u64 y])∧Ext w w'):=by
  have no:validF a b=false∨validF c d=false→∃ x y:Int,(∀ w,Calls Tryz.prog 17 #[.agg #[.int .u64 (a:Int),.int .u64 (b:Int)],.agg #[.int .u64 (c:Int),.int .u64 (d:Int)]] w fun e w'=>e=.returned (.agg #[.int .u64 x,.int .u64 y])∧Ext w w')∧(∀ w,Table w→Calls Tryz.prog 18 #[.agg #[.int .u64 (a:Int),.int .u64 (b:Int)],.agg #[.int .u64 (c:Int),.int .u64 (d:Int)]] w fun e w'=>e=.returned (.agg #[.int .u64 x,.int .u64 y])∧Ext w w'):=fun h=>⟨_,_,fun w=>idiv_no a b c d ha hb hc hd (h.elim Or.inl fun h=>Or.inr (Or.inl h)) w,fun w _=>refDiv_no a b c d ha hb hc hd h w⟩
  cases h1:validF a b with
  | false=>exact no (Or.inl h1)
  | true =>
    cases h2:validF c d with
    | false=>exact no (Or.inr h2)
    | true =>
      have g:=Good.of ha hb h1
      have g':=Good.of hc hd h2
      cases h3:containsF c d with
      | true =>
        have hz:sgN (numI c) (numD c)≤0∧0≤sgN (numI d) (numD d):=by
          rw [(sgN_iff g'.nm.1).1,(sgN_iff g'.nm.2).2]
          constructor
          · rcases Int.lt_or_le 0 (frank c) with h | h
            · rw [holds_no g' (Or.inl h)] at h3;cases h3
            · exact h
          · rcases Int.lt_or_le (frank d) 0 with h | h
            · rw [holds_no g' (Or.inr h)] at h3;cases h3
            · exact h
        exact ⟨_,_,fun w=>idiv_no a b c d ha hb hc hd (Or.inr (Or.inr h3)) w,fun w hT=>refDiv_zero a b c d g g' hz w hT⟩
      | false =>
        have hz:¬ (sgN (numI c) (numD c)≤0∧0≤sgN (numI d) (numD d)):=by
          rw [(sgN_iff g'.nm.1).1,(sgN_iff g'.nm.2).2]
          rintro ⟨k1,k2⟩
          rw [has_zero g' k1 k2] at h3
          cases h3
        refine ⟨_,_,fun w=>idiv_full a b c d _ _ _ _ ha hb hc hd h1 h2 h3 ⟨rfl,rfl,four_lt (f:=fun x y=>fdivF x y 1) fun _ _=>fdiv_lt _,four_lt (f:=fun x y=>fdivF x y 2) fun _ _=>fdiv_lt _,rfl,rfl⟩ w,fun w hT=>?_⟩
        show Calls _ _ _ _ fun e w'=>e=.returned (.agg #[.int .u64 ((plainF (cornLo fdivF a b c d):Nat):Int),.int .u64 ((plainF (cornHi fdivF a b c d):Nat):Int)])∧Ext w w'
        by_cases hs:sgN (numI d) (numD d)<0
        · have hm':if sgN (numI d) (numD d)<0 then plainF (fnegF b)=plainF (fnegF b)∧plainF (fnegF a)=plainF (fnegF a)∧plainF (fnegF d)=plainF (fnegF d)∧plainF (fnegF c)=plainF (fnegF c) else plainF (fnegF b)=a∧plainF (fnegF a)=b∧plainF (fnegF d)=c∧plainF (fnegF c)=d:=by
            rw [if_pos hs];exact ⟨rfl,rfl,rfl,rfl⟩
          obtain ⟨e1,e2⟩:=div_same g g' h3 hm'
          exact refDiv_raw a b c d _ _ _ _ g g' hz hm' w hT _ _ e1 e2
        · have hm':if sgN (numI d) (numD d)<0 then a=plainF (fnegF b)∧b=plainF (fnegF a)∧c=plainF (fnegF d)∧d=plainF (fnegF c) else a=a∧b=b∧c=c∧d=d:=by
            rw [if_neg hs];exact ⟨rfl,rfl,rfl,rfl⟩
          obtain ⟨e1,e2⟩:=div_same g g' h3 hm'
          exact refDiv_raw a b c d _ _ _ _ g g' hz hm' w hT _ _ e1 e2
theorem exHull_any (a b c d:Nat) (ha:a<18446744073709551616) (hb:b<18446744073709551616) (hc:c<18446744073709551616) (hd:d<18446744073709551616):∃ x y:Int,(∀ w,Calls Tryz.prog 23 #[.agg #[.int .u64 (a:Int),.int .u64 (b:Int)],.agg #[.int .u64 (c:Int),.int .u64 (d:Int)]] w fun e w'=>e=.returned (.agg #[.int .u64 x,.int .u64 y])∧Ext w w')∧(∀ w,Table w→Calls Tryz.prog 24 #[.agg #[.int .u64 (a:Int),.int .u64 (b:Int)],.agg #[.int .u64 (c:Int),.int .u64 (d:Int)]] w fun e w'=>e=.returned (.agg #[.int .u64 x,.int .u64 y])∧Ext w w'):=by
  have no:validF a b=false∨validF c d=false→∃ x y:Int,(∀ w,Calls Tryz.prog 23 #[.agg #[.int .u64 (a:Int),.int .u64 (b:Int)],.agg #[.int .u64 (c:Int),.int .u64 (d:Int)]] w fun e w'=>e=.returned (.agg #[.int .u64 x,.int .u64 y])∧Ext w w')∧(∀ w,Table w→Calls Tryz.prog 24 #[.agg #[.int .u64 (a:Int),.int .u64 (b:Int)],.agg #[.int .u64 (c:Int),.int .u64 (d:Int)]] w fun e w'=>e=.returned (.agg #[.int .u64 x,.int .u64 y])∧Ext w w'):=fun h=>⟨_,_,fun w=>ihull_no a b c d ha hb hc hd h w,fun w _=>refHull_no a b c d ha hb hc hd h w⟩
  cases h1:validF a b with
  | false=>exact no (Or.inl h1)
  | true =>
    cases h2:validF c d with
    | false=>exact no (Or.inr h2)
    | true =>
      have g:=Good.of ha hb h1
      have g':=Good.of hc hd h2
      obtain ⟨e1,e2⟩:=hull_same g g'
      refine ⟨_,_,fun w=>ihull_yes a b c d ha hb hc hd h1 h2 w,fun w hT=>?_⟩
      rw [←e1,←e2]
      exact refHull_raw a b c d g g' w hT
set_option maxRecDepth 100000 in
set_option maxHeartbeats 32000000 in
theorem iexL_any (a b c d:Nat) (ha:a<18446744073709551616) (hb:b<18446744073709551616) (hc:c<18446744073709551616) (hd:d<18446744073709551616) (w:World) (hT:Table w) :
    Calls Tryz.prog 3 #[.agg #[.int .u64 (a:Int),.int .u64 (b:Int)],.agg #[.int .u64 (c:Int),.int .u64 (d:Int)]] w fun r w'=>r=.returned (.bool true)∧Ext w w':=by
  obtain ⟨z,hz⟩:∃ z,validF a b=z:=⟨_,rfl⟩
  have PValid:=Lib.hid (fun w=>ivalid_any a b ha hb z hz w)
  have RValid:=Lib.hid (fun w=>refValid_any a b ha hb z hz w)
  obtain ⟨p1,p2,hp⟩:=point_two a
  have PPoint:=Lib.hid (fun w=>point_any a ha _ hp w)
  have RPoint:=Lib.hid (fun w=>refPoint_any a ha _ hp w)
  obtain ⟨neg1,neg2,t1,t2⟩:=exNeg_any a b ha hb
  have PNeg:=Lib.hid t1
  have RNeg:=Lib.hid t2
  clear t1 t2
  obtain ⟨add1,add2,t1,t2⟩:=exAdd_any a b c d ha hb hc hd
  have PAdd:=Lib.hid t1
  have RAdd:=Lib.hid t2
  clear t1 t2
  obtain ⟨sub1,sub2,t1,t2⟩:=exSub_any a b c d ha hb hc hd
  have PSub:=Lib.hid t1
  have RSub:=Lib.hid t2
  clear t1 t2
  obtain ⟨mul1,mul2,t1,t2⟩:=exMul_any a b c d ha hb hc hd
  have PMul:=Lib.hid t1
  have RMul:=Lib.hid t2
  clear t1 t2
  obtain ⟨div1,div2,t1,t2⟩:=exDiv_any a b c d ha hb hc hd
  have PDiv:=Lib.hid t1
  have RDiv:=Lib.hid t2
  clear t1 t2
  obtain ⟨sqr1,sqr2,t1,t2⟩:=exSqr_any a b ha hb
  have PSqr:=Lib.hid t1
  have RSqr:=Lib.hid t2
  clear t1 t2
  obtain ⟨sqrt1,sqrt2,t1,t2⟩:=exSqrt_any a b ha hb
  have PSqrt:=Lib.hid t1
  have RSqrt:=Lib.hid t2
  clear t1 t2
  obtain ⟨hull1,hull2,t1,t2⟩:=exHull_any a b c d ha hb hc hd
  have PHull:=Lib.hid t1
  have RHull:=Lib.hid t2
  clear t1 t2
  have HT:=Lib.hid hT
  have CA:=Lib.hid iawake_any
  clear hz hp hT ha hb hc hd
  go_enter Tryz.func3,Tryz.ntmps3
  go_upto_region 1 with fail
  obtain ⟨V,hW,hB,hx,hy,hsz⟩:=ibox_two w a b c d
  rw [←hW]
  clear hW hsz
  have HB:=Lib.hid hB
  generalize w.heap.size=B at hx hy ⊢
  have HC:=Lib.hid (show ∀ wx,Ext V wx→(wx.cell? ⟨B,0,none⟩=some (.int .u64 (a:Int))∧wx.cell? ⟨B,1,none⟩=some (.int .u64 (b:Int)))∧(wx.cell? ⟨B+1,0,none⟩=some (.int .u64 (c:Int))∧wx.cell? ⟨B+1,1,none⟩=some (.int .u64 (d:Int))) from fun wx h=>⟨⟨(hx.below h).c0,(hx.below h).c1⟩,(hy.below h).c0,(hy.below h).c1⟩)
  have HTV:=Lib.hid (show ∀ wx,Ext V wx→Table wx from fun wx h=>(HT.out.below HB.out).below h)
  clear hx hy hB HT
  have st:Ext V V:=Ext.refl _
  obtain ⟨⟨a0,a1⟩,a2,a3⟩:=HC.out _ st
  go_upto_region 1 with fail
  have st:Ext V _:=st.drew
  go_region_held3 (fun wx=>(wx.cell? ⟨B,0,none⟩=some (.int .u64 (a:Int))∧wx.cell? ⟨B,1,none⟩=some (.int .u64 (b:Int)))∧(wx.cell? ⟨B+1,0,none⟩=some (.int .u64 (c:Int))∧wx.cell? ⟨B+1,1,none⟩=some (.int .u64 (d:Int))))
    (first | exact HC.out _ (by with_reducible assumption))
    (first
      | (go_at_call 5;(with_reducible refine (PValid.out _).mono ?_);rintro r wn ⟨rfl,hE⟩;have st:Ext V wn:=Ext.trans (by with_reducible assumption) hE;clear hE)
      | (go_at_call 6;(with_reducible refine (RValid.out _).mono ?_);rintro r wn ⟨rfl,hE⟩;have st:Ext V wn:=Ext.trans (by with_reducible assumption) hE;clear hE)
      | (go_at_call 7;(with_reducible refine (PPoint.out _).mono ?_);rintro r wn ⟨rfl,hE⟩;have st:Ext V wn:=Ext.trans (by with_reducible assumption) hE;clear hE)
      | (go_at_call 8;(with_reducible refine (RPoint.out _).mono ?_);rintro r wn ⟨rfl,hE⟩;have st:Ext V wn:=Ext.trans (by with_reducible assumption) hE;clear hE)
      | (go_at_call 9;(with_reducible refine (PNeg.out _).mono ?_);rintro r wn ⟨rfl,hE⟩;have st:Ext V wn:=Ext.trans (by with_reducible assumption) hE;clear hE)
      | (go_at_call 10;(with_reducible refine (RNeg.out _ (HTV.out _ (by with_reducible assumption))).mono ?_);rintro r wn ⟨rfl,hE⟩;have st:Ext V wn:=Ext.trans (by with_reducible assumption) hE;clear hE)
      | (go_at_call 11;(with_reducible refine (PAdd.out _).mono ?_);rintro r wn ⟨rfl,hE⟩;have st:Ext V wn:=Ext.trans (by with_reducible assumption) hE;clear hE)
      | (go_at_call 12;(with_reducible refine (RAdd.out _ (HTV.out _ (by with_reducible assumption))).mono ?_);rintro r wn ⟨rfl,hE⟩;have st:Ext V wn:=Ext.trans (by with_reducible assumption) hE;clear hE)
      | (go_at_call 13;(with_reducible refine (PSub.out _).mono ?_);rintro r wn ⟨rfl,hE⟩;have st:Ext V wn:=Ext.trans (by with_reducible assumption) hE;clear hE)
      | (go_at_call 14;(with_reducible refine (RSub.out _ (HTV.out _ (by with_reducible assumption))).mono ?_);rintro r wn ⟨rfl,hE⟩;have st:Ext V wn:=Ext.trans (by with_reducible assumption) hE;clear hE)
    )
  clear a0 a1 a2 a3
  obtain ⟨⟨a0,a1⟩,a2,a3⟩:=HC.out _ st
  go_upto_region 3 with fail
  have st:Ext V _:=st.drew
  go_region_held3 (fun wx=>(wx.cell? ⟨B,0,none⟩=some (.int .u64 (a:Int))∧wx.cell? ⟨B,1,none⟩=some (.int .u64 (b:Int)))∧(wx.cell? ⟨B+1,0,none⟩=some (.int .u64 (c:Int))∧wx.cell? ⟨B+1,1,none⟩=some (.int .u64 (d:Int))))
    (first | exact HC.out _ (by with_reducible assumption))
    (first
      | (go_at_call 15;(with_reducible refine (PMul.out _).mono ?_);rintro r wn ⟨rfl,hE⟩;have st:Ext V wn:=Ext.trans (by with_reducible assumption) hE;clear hE)
      | (go_at_call 16;(with_reducible refine (RMul.out _ (HTV.out _ (by with_reducible assumption))).mono ?_);rintro r wn ⟨rfl,hE⟩;have st:Ext V wn:=Ext.trans (by with_reducible assumption) hE;clear hE)
      | (go_at_call 17;(with_reducible refine (PDiv.out _).mono ?_);rintro r wn ⟨rfl,hE⟩;have st:Ext V wn:=Ext.trans (by with_reducible assumption) hE;clear hE)
      | (go_at_call 18;(with_reducible refine (RDiv.out _ (HTV.out _ (by with_reducible assumption))).mono ?_);rintro r wn ⟨rfl,hE⟩;have st:Ext V wn:=Ext.trans (by with_reducible assumption) hE;clear hE)
      | (go_at_call 19;(with_reducible refine (PSqr.out _).mono ?_);rintro r wn ⟨rfl,hE⟩;have st:Ext V wn:=Ext.trans (by with_reducible assumption) hE;clear hE)
      | (go_at_call 20;(with_reducible refine (RSqr.out _ (HTV.out _ (by with_reducible assumption))).mono ?_);rintro r wn ⟨rfl,hE⟩;have st:Ext V wn:=Ext.trans (by with_reducible assumption) hE;clear hE)
      | (go_at_call 21;(with_reducible refine (PSqrt.out _).mono ?_);rintro r wn ⟨rfl,hE⟩;have st:Ext V wn:=Ext.trans (by with_reducible assumption) hE;clear hE)
      | (go_at_call 22;(with_reducible refine (RSqrt.out _ (HTV.out _ (by with_reducible assumption))).mono ?_);rintro r wn ⟨rfl,hE⟩;have st:Ext V wn:=Ext.trans (by with_reducible assumption) hE;clear hE)
      | (go_at_call 23;(with_reducible refine (PHull.out _).mono ?_);rintro r wn ⟨rfl,hE⟩;have st:Ext V wn:=Ext.trans (by with_reducible assumption) hE;clear hE)
      | (go_at_call 24;(with_reducible refine (RHull.out _ (HTV.out _ (by with_reducible assumption))).mono ?_);rintro r wn ⟨rfl,hE⟩;have st:Ext V wn:=Ext.trans (by with_reducible assumption) hE;clear hE)
      | (go_at_call 25;(with_reducible refine (CA.out _).mono ?_);rintro r wn ⟨rfl,hE⟩;have st:Ext V wn:=Ext.trans (by with_reducible assumption) hE;clear hE)
    )
  have HF:=Lib.hid (Ext.trans HB.out st)
  go_wp2
  go_ret
  exact ⟨rfl,HF.out⟩
theorem iexL_int (a b c d:Int) (w:World) (ha:0≤a∧a<18446744073709551616) (hb:0≤b∧b<18446744073709551616) (hc:0≤c∧c<18446744073709551616) (hd:0≤d∧d<18446744073709551616) (hT:Table w) :
    Calls Tryz.prog 3 #[.agg #[.int .u64 a,.int .u64 b],.agg #[.int .u64 c,.int .u64 d]] w fun r w'=>r=.returned (.bool true)∧Ext w w':=by
  have h:=iexL_any a.toNat b.toNat c.toNat d.toNat (by omega) (by omega) (by omega) (by omega) w hT
  rw [Int.toNat_of_nonneg ha.1,Int.toNat_of_nonneg hb.1,Int.toNat_of_nonneg hc.1,Int.toNat_of_nonneg hd.1] at h
  exact h
end Go.Proofs.YtkomhemjodbkpaaGreatDoor
