import Derived.Test.YtkomhemjodbkpaaGreatDoorIExLawU43
import Derived.Test.YtkomhemjodbkpaaGreatDoorIExLawU45
import Derived.Test.YtkomhemjodbkpaaGreatDoorIExLawU41
import Derived.Test.YtkomhemjodbkpaaGreatDoorIExLawU34
import Derived.Test.YtkomhemjodbkpaaGreatDoorIExLawU44
namespace Go.Proofs.YtkomhemjodbkpaaGreatDoor
open Go Go.RowKit
set_option maxRecDepth 100000 in
set_option maxHeartbeats 16000000 in
theorem refDiv_raw (a b c d p q r s:Nat) (g:Good a b) (g':Good c d) (hz:¬ (sgN (numI c) (numD c)≤0∧0≤sgN (numI d) (numD d)))
    (hm:if sgN (numI d) (numD d)<0 then p=plainF (fnegF b)∧q=plainF (fnegF a)∧r=plainF (fnegF d)∧s=plainF (fnegF c) else p=a∧q=b∧r=c∧s=d) (w:World) (hT:Table w) (x y:Int)
    (hx:(if 0≤sgN (numI p) (numD p) then ((quoN (numI p) (numD p) (numI s) (numD s) 1:Nat):Int) else ((quoN (numI p) (numD p) (numI r) (numD r) 1:Nat):Int))=x)
    (hy:(if 0≤sgN (numI q) (numD q) then ((quoN (numI q) (numD q) (numI r) (numD r) 2:Nat):Int) else ((quoN (numI q) (numD q) (numI s) (numD s) 2:Nat):Int))=y) :
    Calls Tryz.prog 18 #[.agg #[.int .u64 (a:Int),.int .u64 (b:Int)],.agg #[.int .u64 (c:Int),.int .u64 (d:Int)]] w fun e w'=>e=.returned (.agg #[.int .u64 x,.int .u64 y])∧Ext w w':=by
  have C1:=Lib.hid (fun w=>refValid_any a b g.l1 g.l2 true g.valid w)
  have C2:=Lib.hid (fun w=>refValid_any c d g'.l1 g'.l2 true g'.valid w)
  have NA:=Lib.hid (fun w hT=>refNumOf_any a g.l1 _ _ rfl rfl w hT)
  have NB:=Lib.hid (fun w hT=>refNumOf_any b g.l2 _ _ rfl rfl w hT)
  have NC:=Lib.hid (fun w hT=>refNumOf_any c g'.l1 _ _ rfl rfl w hT)
  have ND:=Lib.hid (fun w hT=>refNumOf_any d g'.l2 _ _ rfl rfl w hT)
  have gn:=(neg_good g).1
  have gn':=(neg_good g').1
  have O0:=Lib.hid (fun w hT=>refNumOf_any (plainF (fnegF b)) gn.l1 _ _ rfl rfl w hT)
  have O1:=Lib.hid (fun w hT=>refNumOf_any (plainF (fnegF a)) gn.l2 _ _ rfl rfl w hT)
  have O2:=Lib.hid (fun w hT=>refNumOf_any (plainF (fnegF d)) gn'.l1 _ _ rfl rfl w hT)
  have O3:=Lib.hid (fun w hT=>refNumOf_any (plainF (fnegF c)) gn'.l2 _ _ rfl rfl w hT)
  have N0:=Lib.hid (fun w=>refNeg_yes a b g w)
  have N1:=Lib.hid (fun w=>refNeg_yes c d g' w)
  obtain ⟨sc',hsc⟩:∃ s,sgN (numI c) (numD c)=s:=⟨_,rfl⟩
  obtain ⟨sd,hsd⟩:∃ s,sgN (numI d) (numD d)=s:=⟨_,rfl⟩
  have SC:=Lib.hid (fun v w hv hT=>refSgN_any v (numI c) (numD c) sc' hsc w hv hT)
  have SD:=Lib.hid (fun v w hv hT=>refSgN_any v (numI d) (numD d) sd hsd w hv hT)
  rw [hsc,hsd] at hz
  rw [hsd] at hm
  have HM:=Lib.hid hm
  have HX:=Lib.hid hx
  have HY:=Lib.hid hy
  have HZ:=Lib.hid hz
  have HT:=Lib.hid hT
  clear hsc hsd hx hy hz hm g g' gn gn' hT
  go_enter Tryz.func18,Tryz.ntmps18
  go_upto_region 1 with fail
  obtain ⟨W,hW,hB,hx,hy,hbx,hsz⟩:=ibox_three w a b c d 0 0
  rw [←hW]
  clear hW
  generalize hBe:w.heap.size=B at *
  have HBe:=Lib.hid hBe
  have HB:Hid (Below B w W):=Lib.hid (by rw [←hBe];exact hB)
  clear hBe hB
  have hBs:B+3≤W.heap.size:=hsz
  clear hsz
  have c0:=hx.c0
  have c1:=hx.c1
  have c2:=hy.c0
  have c3:=hy.c1
  go_wp2_with fail
  refine (C1.out _).mono ?_
  rintro r w1 ⟨rfl,hE⟩
  have hx:=hx.below hE
  have hy:=hy.below hE
  have hbx:=hbx.below hE
  have HB:=Lib.hid (HB.out.trans (Below.mono hE (by omega)))
  have hBs:B+3≤w1.heap.size:=by have:=Below.size hE;omega
  clear c0 c1 c2 c3 hE
  have c0:=hx.c0
  have c1:=hx.c1
  have c2:=hy.c0
  have c3:=hy.c1
  go_wp2_with fail
  refine (C2.out _).mono ?_
  rintro r V ⟨rfl,hE⟩
  have hx:=hx.below hE
  have hy:=hy.below hE
  have hbx:=hbx.below hE
  have HB:=Lib.hid (HB.out.trans (Below.mono hE (by omega)))
  have hBs:B+3≤V.heap.size:=by have:=Below.size hE;omega
  clear c0 c1 c2 c3 hE
  have HC:=Lib.hid (show ∀ wx,Ext V wx→((wx.cell? ⟨B,0,none⟩=some (.int .u64 (a:Int))∧wx.cell? ⟨B,1,none⟩=some (.int .u64 (b:Int)))∧(wx.cell? ⟨B+1,0,none⟩=some (.int .u64 (c:Int))∧wx.cell? ⟨B+1,1,none⟩=some (.int .u64 (d:Int))))∧IBox wx (B+1+1) 0 0 from fun wx h=>⟨⟨⟨(hx.below h).c0,(hx.below h).c1⟩,(hy.below h).c0,(hy.below h).c1⟩,hbx.below h⟩)
  have HTV:=Lib.hid (show ∀ wx,Ext V wx→Table wx from fun wx h=>(HT.out.below (Below.mono HB.out (Nat.le_of_eq HBe.out))).below h)
  clear hx hy hbx
  have c0:=(HC.out V (Ext.refl _)).1.1.1
  have c1:=(HC.out V (Ext.refl _)).1.1.2
  have c2:=(HC.out V (Ext.refl _)).1.2.1
  have c3:=(HC.out V (Ext.refl _)).1.2.2
  go_upto_region 3 with fail
  clear c0 c1 c2 c3
  have HC0:=Lib.hid (fun wx (h:Ext V wx)=>(HC.out wx h).1.1.1)
  have HC1:=Lib.hid (fun wx (h:Ext V wx)=>(HC.out wx h).1.1.2)
  have HC2:=Lib.hid (fun wx (h:Ext V wx)=>(HC.out wx h).1.2.1)
  have HC3:=Lib.hid (fun wx (h:Ext V wx)=>(HC.out wx h).1.2.2)
  rename_i K HK
  refine refDiv_r3 (fun _ _ h=>h) (fun a' wc hM=>HK _ _ ?_) NA NB NC ND HTV HC0 HC1 HC2 HC3
  clear HK
  unfold Met at hM
  obtain ⟨u5,u6,u7,u8,u21,u22,u23,u24,u25,u26,u27,u28,u29,u30,u31,u32,u33,u34,u35,u36,u37,u38,u39,u40,u41,u42,u43,u44,u45,u46,u47,u48,u49,u50,u51,u52,u53,u54,u55,u56,u57,u58,u59,u60,u61,u62,u63,u64,u65,u66,u67,u68,u69,u70,u71,u72,u73,u74,u75,u76,u77,u78,u79,u80,u81,u82,u83,u84,⟨g0,g1,g2,g3,v0,v1,v2,v3,rfl,rfl,rfl,rfl,⟨b0,m0,hv0⟩,⟨b1,m1,hv1⟩,⟨b2,m2,hv2⟩,⟨b3,m3,hv3⟩,hg,st⟩,rfl⟩:=hM
  obtain ⟨ai,ab,an,ao,ak,ac,af,rfl,b0⟩:=b0
  obtain ⟨bi,bb,bn,bo,bk,bc,bf,rfl,b1⟩:=b1
  obtain ⟨ci,cb,cn,co,ck,cc,cf,rfl,b2⟩:=b2
  obtain ⟨di,db,dn,do',dk,dc,df,rfl,b3⟩:=b3
  obtain ⟨U,hU⟩:∃ U,U=wc:=⟨_,rfl⟩
  subst hU
  clear HC0 HC1 HC2 HC3
  have hu0:=b0.lt
  have hu1:=b1.lt
  have hu2:=b2.lt
  have hu3:=b3.lt
  have HBX:=Lib.hid (fun wx (h:Ext U wx)=>(⟨b0.ext h,b1.ext h,b2.ext h,b3.ext h⟩:_∧_∧_∧_))
  have M0:=Lib.hid (fun wx (h:Ext U wx)=>m0.ext h)
  have M1:=Lib.hid (fun wx (h:Ext U wx)=>m1.ext h)
  have M2:=Lib.hid (fun wx (h:Ext U wx)=>m2.ext h)
  have M3:=Lib.hid (fun wx (h:Ext U wx)=>m3.ext h)
  have HTU:=Lib.hid (fun wx (h:Ext U wx)=>HTV.out wx (Ext.trans st h))
  have HST:=Lib.hid st
  clear b0 b1 b2 b3 m0 m1 m2 m3 st
  have st:Ext U U:=Ext.refl _
  have c0:=(HBX.out _ st).2.2.1.c0
  have c1:=(HBX.out _ st).2.2.1.c1
  have c2:=(HBX.out _ st).2.2.1.c2
  have c3:=(HBX.out _ st).2.2.1.c3
  have c4:=(HBX.out _ st).2.2.1.c4
  go_wp2_with fail
  refine (SC.out _ _ (M2.out _ st) (HTU.out _ st)).mono ?_
  rintro r1 wn ⟨rfl,hE⟩
  have st:Ext U wn:=Ext.trans st hE
  clear hE
  clear c0 c1 c2 c3 c4
  by_cases hsc:sc'≤0
  · have hs1:decide (sc'≤0)=true:=decide_eq_true hsc
    have hs2:decide (0≤sd)=false:=decide_eq_false (fun h=>HZ.out ⟨hsc,h⟩)
    have d0:=(HBX.out _ st).2.2.2.c0
    have d1:=(HBX.out _ st).2.2.2.c1
    have d2:=(HBX.out _ st).2.2.2.c2
    have d3:=(HBX.out _ st).2.2.2.c3
    have d4:=(HBX.out _ st).2.2.2.c4
    go_wp2_with fail
    refine (SD.out _ _ (M3.out _ st) (HTU.out _ st)).mono ?_
    rintro r2 wn ⟨rfl,hE⟩
    have st:Ext U wn:=Ext.trans st hE
    clear hE
    clear d0 d1 d2 d3 d4
    have d0:=(HBX.out _ st).2.2.2.c0
    have d1:=(HBX.out _ st).2.2.2.c1
    have d2:=(HBX.out _ st).2.2.2.c2
    have d3:=(HBX.out _ st).2.2.2.c3
    have d4:=(HBX.out _ st).2.2.2.c4
    go_upto_if 44 with (go_at_call 55;(refine (SD.out _ _ (M3.out _ st) (HTU.out _ st)).mono ?_);rintro r wn ⟨rfl,hE⟩;have st:Ext U wn:=Ext.trans st hE;clear hE)
    clear d0 d1 d2 d3 d4
    go_cut [] from 44 (fun wx=>∃ v0 v1 v2 v3,(NBv wx g0 v0∧NumV wx v0 (numI p) (numD p))∧(NBv wx g1 v1∧NumV wx v1 (numI q) (numD q))∧(NBv wx g2 v2∧NumV wx v2 (numI r) (numD r))∧(NBv wx g3 v3∧NumV wx v3 (numI s) (numD s))∧Ext V wx)
    case first =>
      by_cases hd:sd<0
      · have hs4:decide (sd<0)=true:=decide_eq_true hd
        obtain ⟨rfl,rfl,rfl,rfl⟩:=(show p=plainF (fnegF b)∧q=plainF (fnegF a)∧r=plainF (fnegF d)∧s=plainF (fnegF c) by have h:=HM.out;rw [if_pos hd] at h;exact h)
        go_upto_region 7 with fail
        obtain ⟨X,hX⟩:∃ X,X=wn:=⟨_,rfl⟩
        subst hX
        have hUX:U.heap.size≤X.heap.size:=Below.size st
        have HI0:=Lib.hid (fun wx (h:Ext X wx)=>(HC.out wx (Ext.trans HST.out (Ext.trans st h))).1.1)
        have HI1:=Lib.hid (fun wx (h:Ext X wx)=>(HC.out wx (Ext.trans HST.out (Ext.trans st h))).1.2)
        rename_i K HK
        refine refDiv_r7 (fun _ _ h=>h) (fun a' wc hM=>HK _ _ ?_) N0 N1 HI0 HI1
        clear HK
        unfold Met at hM
        obtain ⟨u9,u10,u45,u46,u47,u48,u49,u50,u51,u52,u53,u54,u55,u56,u57,u58,u59,u60,u61,u62,u63,u64,u65,u66,u67,u68,u69,u70,u71,u72,u73,u74,u75,u76,u77,u78,u79,u80,u81,u82,u83,u84,⟨G,H,rfl,rfl,bG,bH,hG,hH,sx⟩,rfl⟩:=hM
        go_upto_region 8 with fail
        have st8:Ext U wc:=Ext.trans st sx
        refine refDiv_r8 (L:=fun wx=>Ext V wx∧IBox wx G _ _∧IBox wx H _ _) (fun a' wx hR=>?_) (fun w w' h e=>⟨Ext.trans h.1 e,h.2.1.below e,h.2.2.below e⟩)
          (fun w w' h _ o=>⟨Below.trans h.1 (o.below hv0),h.2.1.only o (by omega),h.2.2.only o (by omega)⟩) (fun w w' h _ o=>⟨Below.trans h.1 (o.below hv1),h.2.1.only o (by omega),h.2.2.only o (by omega)⟩) (fun w w' h _ o=>⟨Below.trans h.1 (o.below hv2),h.2.1.only o (by omega),h.2.2.only o (by omega)⟩) (fun w w' h _ o=>⟨Below.trans h.1 (o.below hv3),h.2.1.only o (by omega),h.2.2.only o (by omega)⟩)
          ⟨Ext.trans HST.out st8,bG,bH⟩ ⟨_,_,_,_,_,_,_,(HBX.out _ st8).1⟩ ⟨_,_,_,_,_,_,_,(HBX.out _ st8).2.1⟩ ⟨_,_,_,_,_,_,_,(HBX.out _ st8).2.2.1⟩ ⟨_,_,_,_,_,_,_,(HBX.out _ st8).2.2.2⟩ hg.1 hg.2.1 hg.2.2.1 hg.2.2.2.1 hg.2.2.2.2.1 hg.2.2.2.2.2
          O0 O1 O2 O3 (Lib.hid (fun wx h=>HTV.out wx h.1)) (Lib.hid (fun wx h=>h.2.1.c0)) (Lib.hid (fun wx h=>h.2.1.c1)) (Lib.hid (fun wx h=>h.2.2.c0)) (Lib.hid (fun wx h=>h.2.2.c1))
        obtain ⟨u49,u50,u51,u52,u53,u54,u55,u56,u57,u58,u59,u60,u61,u62,u63,u64,u65,u66,u67,u68,u69,u70,u71,u72,u73,u74,u75,u76,u77,u78,u79,u80,u81,u82,u83,u84,⟨v0,v1,v2,v3,k0,k1,k2,k3,hL⟩,rfl⟩:=hR
        go_wp2
        go_meet
        exact ⟨_,_,_,_,k0,k1,k2,k3,hL.1⟩
      · have hs4:decide (sd<0)=false:=decide_eq_false hd
        obtain ⟨rfl,rfl,rfl,rfl⟩:=(show p=a∧q=b∧r=c∧s=d by have h:=HM.out;rw [if_neg hd] at h;exact h)
        go_wp2
        go_meet
        exact ⟨_,_,_,_,⟨⟨_,_,_,_,_,_,_,rfl,(HBX.out _ st).1⟩,M0.out _ st⟩,⟨⟨_,_,_,_,_,_,_,rfl,(HBX.out _ st).2.1⟩,M1.out _ st⟩,⟨⟨_,_,_,_,_,_,_,rfl,(HBX.out _ st).2.2.1⟩,M2.out _ st⟩,⟨⟨_,_,_,_,_,_,_,rfl,(HBX.out _ st).2.2.2⟩,M3.out _ st⟩,Ext.trans HST.out st⟩
    case rest =>
    clear st
    obtain ⟨v0,v1,v2,v3,⟨b0,n0⟩,⟨b1,n1⟩,⟨b2,n2⟩,⟨b3,n3⟩,st⟩:=hcut
    obtain ⟨X,hX⟩:∃ X,X=wc:=⟨_,rfl⟩
    subst hX
    obtain ⟨ei,eb,en,eo,ek,ec,ef,rfl,b0⟩:=b0
    obtain ⟨fi,fb,fn,fo,fk,fc,ff,rfl,b1⟩:=b1
    obtain ⟨hi,hb,hn,ho,hk,hc,hf,rfl,b2⟩:=b2
    obtain ⟨li,lb,ln,lo,lk,lc,lf,rfl,b3⟩:=b3
    have HB2:=Lib.hid (fun wx (h:Ext X wx)=>(⟨b0.ext h,b1.ext h,b2.ext h,b3.ext h⟩:_∧_∧_∧_))
    have P0:=Lib.hid (fun wx (h:Ext X wx)=>n0.ext h)
    have P1:=Lib.hid (fun wx (h:Ext X wx)=>n1.ext h)
    have P2:=Lib.hid (fun wx (h:Ext X wx)=>n2.ext h)
    have P3:=Lib.hid (fun wx (h:Ext X wx)=>n3.ext h)
    have HTX:=Lib.hid (fun wx (h:Ext X wx)=>HTV.out wx (Ext.trans st h))
    have HVX:=Lib.hid st
    clear st b0 b1 b2 b3 n0 n1 n2 n3
    go_upto_region 10 with fail
    obtain ⟨Y,hY,st,bd,su⟩:=ibox_new X 0 0
    rw [←hY]
    clear hY su
    obtain ⟨E,hEE⟩:∃ E,X.heap.size=E:=⟨_,rfl⟩
    have hXE:X.heap.size≤E:=Nat.le_of_eq hEE
    rw [hEE] at bd ⊢
    clear hEE
    have bd:=Lib.hid bd
    have st:Ext X Y:=st
    obtain ⟨sp,hsp⟩:∃ z,sgN (numI p) (numD p)=z:=⟨_,rfl⟩
    obtain ⟨sq,hsq⟩:∃ z,sgN (numI q) (numD q)=z:=⟨_,rfl⟩
    have SP:=Lib.hid (fun v w hv hT=>refSgN_any v (numI p) (numD p) sp hsp w hv hT)
    have SQ:=Lib.hid (fun v w hv hT=>refSgN_any v (numI q) (numD q) sq hsq w hv hT)
    have HSP:=Lib.hid hsp
    have HSQ:=Lib.hid hsq
    clear hsp hsq
    have x0:=(HB2.out _ st).1.c0
    have x1:=(HB2.out _ st).1.c1
    have x2:=(HB2.out _ st).1.c2
    have x3:=(HB2.out _ st).1.c3
    have x4:=(HB2.out _ st).1.c4
    go_upto_if 64 with (go_at_call 55;(refine (SP.out _ _ (P0.out _ st) (HTX.out _ st)).mono ?_);rintro r5 W5 ⟨rfl,hE⟩;have bd:=Lib.hid (bd.out.below hE);have st:Ext X W5:=Ext.trans st hE;clear hE)
    clear x0 x1 x2 x3 x4
    go_cut [] from 64 (fun wx=>IBox wx E x 0∧Ext X wx)
    case first =>
      by_cases hp:0≤sp
      · have hs7:decide (0≤sp)=true:=decide_eq_true hp
        obtain rfl:((quoN (numI p) (numD p) (numI s) (numD s) 1:Nat):Int)=x:=by rw [←HX.out,HSP.out,if_pos hp]
        have QQ:=Lib.hid (refQuotient_any _ _ (numI p) (numI s) (numD p) (numD s) 1 (numI_range p) (numI_range s) _ (P0.out _ st) (P3.out _ st) (HTX.out _ st))
        have x0:=(HB2.out _ st).1.c0
        have y0:=(HB2.out _ st).2.2.2.c0
        have x1:=(HB2.out _ st).1.c1
        have y1:=(HB2.out _ st).2.2.2.c1
        have x2:=(HB2.out _ st).1.c2
        have y2:=(HB2.out _ st).2.2.2.c2
        have x3:=(HB2.out _ st).1.c3
        have y3:=(HB2.out _ st).2.2.2.c3
        have x4:=(HB2.out _ st).1.c4
        have y4:=(HB2.out _ st).2.2.2.c4
        go_wp2_with fail
        refine QQ.out.mono ?_
        rintro r5 W5 ⟨rfl,hE⟩
        have bd:=bd.out.below hE
        have st:Ext X W5:=Ext.trans st hE
        clear hE x0 x1 x2 x3 x4 y0 y1 y2 y3 y4
        have z0:=bd.c0
        have z1:=bd.c1
        have z2:=bd.f 0
        have z3:=bd.f 1
        go_wp2
        go_meet
        exact ⟨bd.stored0 _,Below.trans st ((only_set1 _ _ _ _).below hXE)⟩
      · have hs7:decide (0≤sp)=false:=decide_eq_false hp
        obtain rfl:((quoN (numI p) (numD p) (numI r) (numD r) 1:Nat):Int)=x:=by rw [←HX.out,HSP.out,if_neg hp]
        have QQ:=Lib.hid (refQuotient_any _ _ (numI p) (numI r) (numD p) (numD r) 1 (numI_range p) (numI_range r) _ (P0.out _ st) (P2.out _ st) (HTX.out _ st))
        have x0:=(HB2.out _ st).1.c0
        have y0:=(HB2.out _ st).2.2.1.c0
        have x1:=(HB2.out _ st).1.c1
        have y1:=(HB2.out _ st).2.2.1.c1
        have x2:=(HB2.out _ st).1.c2
        have y2:=(HB2.out _ st).2.2.1.c2
        have x3:=(HB2.out _ st).1.c3
        have y3:=(HB2.out _ st).2.2.1.c3
        have x4:=(HB2.out _ st).1.c4
        have y4:=(HB2.out _ st).2.2.1.c4
        go_wp2_with fail
        refine QQ.out.mono ?_
        rintro r5 W5 ⟨rfl,hE⟩
        have bd:=bd.out.below hE
        have st:Ext X W5:=Ext.trans st hE
        clear hE x0 x1 x2 x3 x4 y0 y1 y2 y3 y4
        have z0:=bd.c0
        have z1:=bd.c1
        have z2:=bd.f 0
        have z3:=bd.f 1
        go_wp2
        go_meet
        exact ⟨bd.stored0 _,Below.trans st ((only_set1 _ _ _ _).below hXE)⟩
    case rest =>
    clear bd st
    obtain ⟨bd,st⟩:=hcut
    have bd:=Lib.hid bd
    have x0:=(HB2.out _ st).2.1.c0
    have x1:=(HB2.out _ st).2.1.c1
    have x2:=(HB2.out _ st).2.1.c2
    have x3:=(HB2.out _ st).2.1.c3
    have x4:=(HB2.out _ st).2.1.c4
    go_upto_if 75 with (go_at_call 55;(refine (SQ.out _ _ (P1.out _ st) (HTX.out _ st)).mono ?_);rintro r5 W5 ⟨rfl,hE⟩;have bd:=Lib.hid (bd.out.below hE);have st:Ext X W5:=Ext.trans st hE;clear hE)
    clear x0 x1 x2 x3 x4
    go_cut [] from 75 (fun wx=>IBox wx E x y∧Ext X wx)
    case first =>
      by_cases hp:0≤sq
      · have hs7:decide (0≤sq)=true:=decide_eq_true hp
        obtain rfl:((quoN (numI q) (numD q) (numI r) (numD r) 2:Nat):Int)=y:=by rw [←HY.out,HSQ.out,if_pos hp]
        have QQ:=Lib.hid (refQuotient_any _ _ (numI q) (numI r) (numD q) (numD r) 2 (numI_range q) (numI_range r) _ (P1.out _ st) (P2.out _ st) (HTX.out _ st))
        have x0:=(HB2.out _ st).2.1.c0
        have y0:=(HB2.out _ st).2.2.1.c0
        have x1:=(HB2.out _ st).2.1.c1
        have y1:=(HB2.out _ st).2.2.1.c1
        have x2:=(HB2.out _ st).2.1.c2
        have y2:=(HB2.out _ st).2.2.1.c2
        have x3:=(HB2.out _ st).2.1.c3
        have y3:=(HB2.out _ st).2.2.1.c3
        have x4:=(HB2.out _ st).2.1.c4
        have y4:=(HB2.out _ st).2.2.1.c4
        go_wp2_with fail
        refine QQ.out.mono ?_
        rintro r5 W5 ⟨rfl,hE⟩
        have bd:=bd.out.below hE
        have st:Ext X W5:=Ext.trans st hE
        clear hE x0 x1 x2 x3 x4 y0 y1 y2 y3 y4
        have z0:=bd.c0
        have z1:=bd.c1
        have z2:=bd.f 0
        have z3:=bd.f 1
        go_wp2
        go_meet
        exact ⟨bd.stored1 _,Below.trans st ((only_set1 _ _ _ _).below hXE)⟩
      · have hs7:decide (0≤sq)=false:=decide_eq_false hp
        obtain rfl:((quoN (numI q) (numD q) (numI s) (numD s) 2:Nat):Int)=y:=by rw [←HY.out,HSQ.out,if_neg hp]
        have QQ:=Lib.hid (refQuotient_any _ _ (numI q) (numI s) (numD q) (numD s) 2 (numI_range q) (numI_range s) _ (P1.out _ st) (P3.out _ st) (HTX.out _ st))
        have x0:=(HB2.out _ st).2.1.c0
        have y0:=(HB2.out _ st).2.2.2.c0
        have x1:=(HB2.out _ st).2.1.c1
        have y1:=(HB2.out _ st).2.2.2.c1
        have x2:=(HB2.out _ st).2.1.c2
        have y2:=(HB2.out _ st).2.2.2.c2
        have x3:=(HB2.out _ st).2.1.c3
        have y3:=(HB2.out _ st).2.2.2.c3
        have x4:=(HB2.out _ st).2.1.c4
        have y4:=(HB2.out _ st).2.2.2.c4
        go_wp2_with fail
        refine QQ.out.mono ?_
        rintro r5 W5 ⟨rfl,hE⟩
        have bd:=bd.out.below hE
        have st:Ext X W5:=Ext.trans st hE
        clear hE x0 x1 x2 x3 x4 y0 y1 y2 y3 y4
        have z0:=bd.c0
        have z1:=bd.c1
        have z2:=bd.f 0
        have z3:=bd.f 1
        go_wp2
        go_meet
        exact ⟨bd.stored1 _,Below.trans st ((only_set1 _ _ _ _).below hXE)⟩
    case rest =>
    clear bd st
    obtain ⟨bd,st⟩:=hcut
    have bd:=Lib.hid bd
    have d0:=bd.out.c0
    have d1:=bd.out.c1
    have std:=Ext.trans HVX.out st
    obtain ⟨-,bz⟩:=HC.out _ std
    have hst:=bz.stored x y
    have q0:=hst.c0
    have q1:=hst.c1
    have z0:=bz.c0
    have z1:=bz.c1
    have z2:=bz.f 0
    have z3:=bz.f 1
    have HF:=Lib.hid ((HB.out.trans (Below.mono std (by omega))).trans ((only_iset2 _ (B+1+1) (.int .u64 x) (.int .u64 y)).below (by omega)))
    clear hst bd
    go_wp2
    refine bodyPost_ret (v:=.agg #[.int .u64 x,.int .u64 y]) (by simp [results,Tryz.results18,go_sem,q0,q1]) rfl ⟨rfl,?_⟩
    show Below _ _ _
    rw [HBe.out]
    exact HF.out
  · have hs1:decide (sc'≤0)=false:=decide_eq_false hsc
    have d0:=(HBX.out _ st).2.2.2.c0
    have d1:=(HBX.out _ st).2.2.2.c1
    have d2:=(HBX.out _ st).2.2.2.c2
    have d3:=(HBX.out _ st).2.2.2.c3
    have d4:=(HBX.out _ st).2.2.2.c4
    go_upto_if 44 with (go_at_call 55;(refine (SD.out _ _ (M3.out _ st) (HTU.out _ st)).mono ?_);rintro r wn ⟨rfl,hE⟩;have st:Ext U wn:=Ext.trans st hE;clear hE)
    clear d0 d1 d2 d3 d4
    go_cut [] from 44 (fun wx=>∃ v0 v1 v2 v3,(NBv wx g0 v0∧NumV wx v0 (numI p) (numD p))∧(NBv wx g1 v1∧NumV wx v1 (numI q) (numD q))∧(NBv wx g2 v2∧NumV wx v2 (numI r) (numD r))∧(NBv wx g3 v3∧NumV wx v3 (numI s) (numD s))∧Ext V wx)
    case first =>
      by_cases hd:sd<0
      · have hs4:decide (sd<0)=true:=decide_eq_true hd
        obtain ⟨rfl,rfl,rfl,rfl⟩:=(show p=plainF (fnegF b)∧q=plainF (fnegF a)∧r=plainF (fnegF d)∧s=plainF (fnegF c) by have h:=HM.out;rw [if_pos hd] at h;exact h)
        go_upto_region 7 with fail
        obtain ⟨X,hX⟩:∃ X,X=wn:=⟨_,rfl⟩
        subst hX
        have hUX:U.heap.size≤X.heap.size:=Below.size st
        have HI0:=Lib.hid (fun wx (h:Ext X wx)=>(HC.out wx (Ext.trans HST.out (Ext.trans st h))).1.1)
        have HI1:=Lib.hid (fun wx (h:Ext X wx)=>(HC.out wx (Ext.trans HST.out (Ext.trans st h))).1.2)
        rename_i K HK
        refine refDiv_r7 (fun _ _ h=>h) (fun a' wc hM=>HK _ _ ?_) N0 N1 HI0 HI1
        clear HK
        unfold Met at hM
        obtain ⟨u9,u10,u45,u46,u47,u48,u49,u50,u51,u52,u53,u54,u55,u56,u57,u58,u59,u60,u61,u62,u63,u64,u65,u66,u67,u68,u69,u70,u71,u72,u73,u74,u75,u76,u77,u78,u79,u80,u81,u82,u83,u84,⟨G,H,rfl,rfl,bG,bH,hG,hH,sx⟩,rfl⟩:=hM
        go_upto_region 8 with fail
        have st8:Ext U wc:=Ext.trans st sx
        refine refDiv_r8 (L:=fun wx=>Ext V wx∧IBox wx G _ _∧IBox wx H _ _) (fun a' wx hR=>?_) (fun w w' h e=>⟨Ext.trans h.1 e,h.2.1.below e,h.2.2.below e⟩)
          (fun w w' h _ o=>⟨Below.trans h.1 (o.below hv0),h.2.1.only o (by omega),h.2.2.only o (by omega)⟩) (fun w w' h _ o=>⟨Below.trans h.1 (o.below hv1),h.2.1.only o (by omega),h.2.2.only o (by omega)⟩) (fun w w' h _ o=>⟨Below.trans h.1 (o.below hv2),h.2.1.only o (by omega),h.2.2.only o (by omega)⟩) (fun w w' h _ o=>⟨Below.trans h.1 (o.below hv3),h.2.1.only o (by omega),h.2.2.only o (by omega)⟩)
          ⟨Ext.trans HST.out st8,bG,bH⟩ ⟨_,_,_,_,_,_,_,(HBX.out _ st8).1⟩ ⟨_,_,_,_,_,_,_,(HBX.out _ st8).2.1⟩ ⟨_,_,_,_,_,_,_,(HBX.out _ st8).2.2.1⟩ ⟨_,_,_,_,_,_,_,(HBX.out _ st8).2.2.2⟩ hg.1 hg.2.1 hg.2.2.1 hg.2.2.2.1 hg.2.2.2.2.1 hg.2.2.2.2.2
          O0 O1 O2 O3 (Lib.hid (fun wx h=>HTV.out wx h.1)) (Lib.hid (fun wx h=>h.2.1.c0)) (Lib.hid (fun wx h=>h.2.1.c1)) (Lib.hid (fun wx h=>h.2.2.c0)) (Lib.hid (fun wx h=>h.2.2.c1))
        obtain ⟨u49,u50,u51,u52,u53,u54,u55,u56,u57,u58,u59,u60,u61,u62,u63,u64,u65,u66,u67,u68,u69,u70,u71,u72,u73,u74,u75,u76,u77,u78,u79,u80,u81,u82,u83,u84,⟨v0,v1,v2,v3,k0,k1,k2,k3,hL⟩,rfl⟩:=hR
        go_wp2
        go_meet
        exact ⟨_,_,_,_,k0,k1,k2,k3,hL.1⟩
      · have hs4:decide (sd<0)=false:=decide_eq_false hd
        obtain ⟨rfl,rfl,rfl,rfl⟩:=(show p=a∧q=b∧r=c∧s=d by have h:=HM.out;rw [if_neg hd] at h;exact h)
        go_wp2
        go_meet
        exact ⟨_,_,_,_,⟨⟨_,_,_,_,_,_,_,rfl,(HBX.out _ st).1⟩,M0.out _ st⟩,⟨⟨_,_,_,_,_,_,_,rfl,(HBX.out _ st).2.1⟩,M1.out _ st⟩,⟨⟨_,_,_,_,_,_,_,rfl,(HBX.out _ st).2.2.1⟩,M2.out _ st⟩,⟨⟨_,_,_,_,_,_,_,rfl,(HBX.out _ st).2.2.2⟩,M3.out _ st⟩,Ext.trans HST.out st⟩
    case rest =>
    clear st
    obtain ⟨v0,v1,v2,v3,⟨b0,n0⟩,⟨b1,n1⟩,⟨b2,n2⟩,⟨b3,n3⟩,st⟩:=hcut
    obtain ⟨X,hX⟩:∃ X,X=wc:=⟨_,rfl⟩
    subst hX
    obtain ⟨ei,eb,en,eo,ek,ec,ef,rfl,b0⟩:=b0
    obtain ⟨fi,fb,fn,fo,fk,fc,ff,rfl,b1⟩:=b1
    obtain ⟨hi,hb,hn,ho,hk,hc,hf,rfl,b2⟩:=b2
    obtain ⟨li,lb,ln,lo,lk,lc,lf,rfl,b3⟩:=b3
    have HB2:=Lib.hid (fun wx (h:Ext X wx)=>(⟨b0.ext h,b1.ext h,b2.ext h,b3.ext h⟩:_∧_∧_∧_))
    have P0:=Lib.hid (fun wx (h:Ext X wx)=>n0.ext h)
    have P1:=Lib.hid (fun wx (h:Ext X wx)=>n1.ext h)
    have P2:=Lib.hid (fun wx (h:Ext X wx)=>n2.ext h)
    have P3:=Lib.hid (fun wx (h:Ext X wx)=>n3.ext h)
    have HTX:=Lib.hid (fun wx (h:Ext X wx)=>HTV.out wx (Ext.trans st h))
    have HVX:=Lib.hid st
    clear st b0 b1 b2 b3 n0 n1 n2 n3
    go_upto_region 10 with fail
    obtain ⟨Y,hY,st,bd,su⟩:=ibox_new X 0 0
    rw [←hY]
    clear hY su
    obtain ⟨E,hEE⟩:∃ E,X.heap.size=E:=⟨_,rfl⟩
    have hXE:X.heap.size≤E:=Nat.le_of_eq hEE
    rw [hEE] at bd ⊢
    clear hEE
    have bd:=Lib.hid bd
    have st:Ext X Y:=st
    obtain ⟨sp,hsp⟩:∃ z,sgN (numI p) (numD p)=z:=⟨_,rfl⟩
    obtain ⟨sq,hsq⟩:∃ z,sgN (numI q) (numD q)=z:=⟨_,rfl⟩
    have SP:=Lib.hid (fun v w hv hT=>refSgN_any v (numI p) (numD p) sp hsp w hv hT)
    have SQ:=Lib.hid (fun v w hv hT=>refSgN_any v (numI q) (numD q) sq hsq w hv hT)
    have HSP:=Lib.hid hsp
    have HSQ:=Lib.hid hsq
    clear hsp hsq
    have x0:=(HB2.out _ st).1.c0
    have x1:=(HB2.out _ st).1.c1
    have x2:=(HB2.out _ st).1.c2
    have x3:=(HB2.out _ st).1.c3
    have x4:=(HB2.out _ st).1.c4
    go_upto_if 64 with (go_at_call 55;(refine (SP.out _ _ (P0.out _ st) (HTX.out _ st)).mono ?_);rintro r5 W5 ⟨rfl,hE⟩;have bd:=Lib.hid (bd.out.below hE);have st:Ext X W5:=Ext.trans st hE;clear hE)
    clear x0 x1 x2 x3 x4
    go_cut [] from 64 (fun wx=>IBox wx E x 0∧Ext X wx)
    case first =>
      by_cases hp:0≤sp
      · have hs7:decide (0≤sp)=true:=decide_eq_true hp
        obtain rfl:((quoN (numI p) (numD p) (numI s) (numD s) 1:Nat):Int)=x:=by rw [←HX.out,HSP.out,if_pos hp]
        have QQ:=Lib.hid (refQuotient_any _ _ (numI p) (numI s) (numD p) (numD s) 1 (numI_range p) (numI_range s) _ (P0.out _ st) (P3.out _ st) (HTX.out _ st))
        have x0:=(HB2.out _ st).1.c0
        have y0:=(HB2.out _ st).2.2.2.c0
        have x1:=(HB2.out _ st).1.c1
        have y1:=(HB2.out _ st).2.2.2.c1
        have x2:=(HB2.out _ st).1.c2
        have y2:=(HB2.out _ st).2.2.2.c2
        have x3:=(HB2.out _ st).1.c3
        have y3:=(HB2.out _ st).2.2.2.c3
        have x4:=(HB2.out _ st).1.c4
        have y4:=(HB2.out _ st).2.2.2.c4
        go_wp2_with fail
        refine QQ.out.mono ?_
        rintro r5 W5 ⟨rfl,hE⟩
        have bd:=bd.out.below hE
        have st:Ext X W5:=Ext.trans st hE
        clear hE x0 x1 x2 x3 x4 y0 y1 y2 y3 y4
        have z0:=bd.c0
        have z1:=bd.c1
        have z2:=bd.f 0
        have z3:=bd.f 1
        go_wp2
        go_meet
        exact ⟨bd.stored0 _,Below.trans st ((only_set1 _ _ _ _).below hXE)⟩
      · have hs7:decide (0≤sp)=false:=decide_eq_false hp
        obtain rfl:((quoN (numI p) (numD p) (numI r) (numD r) 1:Nat):Int)=x:=by rw [←HX.out,HSP.out,if_neg hp]
        have QQ:=Lib.hid (refQuotient_any _ _ (numI p) (numI r) (numD p) (numD r) 1 (numI_range p) (numI_range r) _ (P0.out _ st) (P2.out _ st) (HTX.out _ st))
        have x0:=(HB2.out _ st).1.c0
        have y0:=(HB2.out _ st).2.2.1.c0
        have x1:=(HB2.out _ st).1.c1
        have y1:=(HB2.out _ st).2.2.1.c1
        have x2:=(HB2.out _ st).1.c2
        have y2:=(HB2.out _ st).2.2.1.c2
        have x3:=(HB2.out _ st).1.c3
        have y3:=(HB2.out _ st).2.2.1.c3
        have x4:=(HB2.out _ st).1.c4
        have y4:=(HB2.out _ st).2.2.1.c4
        go_wp2_with fail
        refine QQ.out.mono ?_
        rintro r5 W5 ⟨rfl,hE⟩
        have bd:=bd.out.below hE
        have st:Ext X W5:=Ext.trans st hE
        clear hE x0 x1 x2 x3 x4 y0 y1 y2 y3 y4
        have z0:=bd.c0
        have z1:=bd.c1
        have z2:=bd.f 0
        have z3:=bd.f 1
        go_wp2
        go_meet
        exact ⟨bd.stored0 _,Below.trans st ((only_set1 _ _ _ _).below hXE)⟩
    case rest =>
    clear bd st
    obtain ⟨bd,st⟩:=hcut
    have bd:=Lib.hid bd
    have x0:=(HB2.out _ st).2.1.c0
    have x1:=(HB2.out _ st).2.1.c1
    have x2:=(HB2.out _ st).2.1.c2
    have x3:=(HB2.out _ st).2.1.c3
    have x4:=(HB2.out _ st).2.1.c4
    go_upto_if 75 with (go_at_call 55;(refine (SQ.out _ _ (P1.out _ st) (HTX.out _ st)).mono ?_);rintro r5 W5 ⟨rfl,hE⟩;have bd:=Lib.hid (bd.out.below hE);have st:Ext X W5:=Ext.trans st hE;clear hE)
    clear x0 x1 x2 x3 x4
    go_cut [] from 75 (fun wx=>IBox wx E x y∧Ext X wx)
    case first =>
      by_cases hp:0≤sq
      · have hs7:decide (0≤sq)=true:=decide_eq_true hp
        obtain rfl:((quoN (numI q) (numD q) (numI r) (numD r) 2:Nat):Int)=y:=by rw [←HY.out,HSQ.out,if_pos hp]
        have QQ:=Lib.hid (refQuotient_any _ _ (numI q) (numI r) (numD q) (numD r) 2 (numI_range q) (numI_range r) _ (P1.out _ st) (P2.out _ st) (HTX.out _ st))
        have x0:=(HB2.out _ st).2.1.c0
        have y0:=(HB2.out _ st).2.2.1.c0
        have x1:=(HB2.out _ st).2.1.c1
        have y1:=(HB2.out _ st).2.2.1.c1
        have x2:=(HB2.out _ st).2.1.c2
        have y2:=(HB2.out _ st).2.2.1.c2
        have x3:=(HB2.out _ st).2.1.c3
        have y3:=(HB2.out _ st).2.2.1.c3
        have x4:=(HB2.out _ st).2.1.c4
        have y4:=(HB2.out _ st).2.2.1.c4
        go_wp2_with fail
        refine QQ.out.mono ?_
        rintro r5 W5 ⟨rfl,hE⟩
        have bd:=bd.out.below hE
        have st:Ext X W5:=Ext.trans st hE
        clear hE x0 x1 x2 x3 x4 y0 y1 y2 y3 y4
        have z0:=bd.c0
        have z1:=bd.c1
        have z2:=bd.f 0
        have z3:=bd.f 1
        go_wp2
        go_meet
        exact ⟨bd.stored1 _,Below.trans st ((only_set1 _ _ _ _).below hXE)⟩
      · have hs7:decide (0≤sq)=false:=decide_eq_false hp
        obtain rfl:((quoN (numI q) (numD q) (numI s) (numD s) 2:Nat):Int)=y:=by rw [←HY.out,HSQ.out,if_neg hp]
        have QQ:=Lib.hid (refQuotient_any _ _ (numI q) (numI s) (numD q) (numD s) 2 (numI_range q) (numI_range s) _ (P1.out _ st) (P3.out _ st) (HTX.out _ st))
        have x0:=(HB2.out _ st).2.1.c0
        have y0:=(HB2.out _ st).2.2.2.c0
        have x1:=(HB2.out _ st).2.1.c1
        have y1:=(HB2.out _ st).2.2.2.c1
        have x2:=(HB2.out _ st).2.1.c2
        have y2:=(HB2.out _ st).2.2.2.c2
        have x3:=(HB2.out _ st).2.1.c3
        have y3:=(HB2.out _ st).2.2.2.c3
        have x4:=(HB2.out _ st).2.1.c4
        have y4:=(HB2.out _ st).2.2.2.c4
        go_wp2_with fail
        refine QQ.out.mono ?_
        rintro r5 W5 ⟨rfl,hE⟩
        have bd:=bd.out.below hE
        have st:Ext X W5:=Ext.trans st hE
        clear hE x0 x1 x2 x3 x4 y0 y1 y2 y3 y4
        have z0:=bd.c0
        have z1:=bd.c1
        have z2:=bd.f 0
        have z3:=bd.f 1
        go_wp2
        go_meet
        exact ⟨bd.stored1 _,Below.trans st ((only_set1 _ _ _ _).below hXE)⟩
    case rest =>
    clear bd st
    obtain ⟨bd,st⟩:=hcut
    have bd:=Lib.hid bd
    have d0:=bd.out.c0
    have d1:=bd.out.c1
    have std:=Ext.trans HVX.out st
    obtain ⟨-,bz⟩:=HC.out _ std
    have hst:=bz.stored x y
    have q0:=hst.c0
    have q1:=hst.c1
    have z0:=bz.c0
    have z1:=bz.c1
    have z2:=bz.f 0
    have z3:=bz.f 1
    have HF:=Lib.hid ((HB.out.trans (Below.mono std (by omega))).trans ((only_iset2 _ (B+1+1) (.int .u64 x) (.int .u64 y)).below (by omega)))
    clear hst bd
    go_wp2
    refine bodyPost_ret (v:=.agg #[.int .u64 x,.int .u64 y]) (by simp [results,Tryz.results18,go_sem,q0,q1]) rfl ⟨rfl,?_⟩
    show Below _ _ _
    rw [HBe.out]
    exact HF.out
end Go.Proofs.YtkomhemjodbkpaaGreatDoor
