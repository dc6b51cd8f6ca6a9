import Derived.Test.YtkomhemjodbkpaaGreatDoorIExLawU13
import Derived.Test.YtkomhemjodbkpaaGreatDoorIExLawU19
import Derived.Test.YtkomhemjodbkpaaGreatDoorIExLawU30
import Derived.Test.YtkomhemjodbkpaaGreatDoorIExLawU28
namespace Go.Proofs.YtkomhemjodbkpaaGreatDoor
open Go.RowKit
set_option maxRecDepth 100000 in
set_option maxHeartbeats 4000000 in
theorem ref_dmul_any (u v:Value) (d d':Dy) (w:World) (hu:Dl w u d) (hv:Dl w v d') (hT:Table w) :
    Calls Tryz.prog 95 #[u,v] w fun e w'=>∃ r,e=.returned r∧Dn w' r (dmul d d')∧Ext w w':=by
  have hu0:=hu
  have hv0:=hv
  obtain ⟨ub,un,uo,uk,uc,_,uf,rfl,-⟩:=hu0
  obtain ⟨vb,vn,vo,vk,vc,_,vf,rfl,-⟩:=hv0
  go_enter Tryz.func95,Tryz.ntmps95
  go_upto_region 1 with fail
  obtain ⟨W,hW,hB,hbx,hby,hrx,hz⟩:=boxes_ddd w ub un uo uk uc uf vb vn vo vk vc vf
  rw [←hW]
  clear hW
  have hu:=hu.ext hB
  have hv:=hv.ext hB
  have HT0:=Lib.hid hT
  have hT:=hT.below hB
  generalize hBe:w.heap.size=B at *
  have HBe:=Lib.hid hBe;clear hBe
  go_cut [] from 5 (fun wx=>∃ xb xn xo xk xc xe yb yn yo yk yc ye,Dn wx (.agg #[.bool xb,.bool xn,.slice xo xk xc,.int .i64 xe]) d∧Dn wx (.agg #[.bool yb,.bool yn,.slice yo yk yc,.int .i64 ye]) d' ∧
    DBox wx B xb xn xo xk xc xe∧DBox wx (B+1) yb yn yo yk yc ye∧Below B w wx∧(∀ k,B+1<k→k<W.heap.size→wx.heap[k]?=W.heap[k]?)∧W.heap.size≤wx.heap.size)
  case first =>
    have k0:=hbx.c0
    have k1:=hbx.c1
    have k2:=hbx.c2
    have k3:=hbx.c3
    have l0:=hby.c0
    have l1:=hby.c1
    have l2:=hby.c2
    have l3:=hby.c3
    go_region_with (first
      | (go_at_call 131;refine (refDNorm_any _ _ _ (by exact hu.ext (by exact (Below.refl _ _).drew)) (by exact hT.below (by exact (Below.refl _ _).drew))).mono ?_;rintro e w1 ⟨r1,rfl,hr1,hw1⟩;have ex1:Ext W w1:=Ext.trans (by exact (Below.refl _ _).drew) hw1;obtain ⟨xb,xn,xo,xk,xc,xe,rfl⟩:=hr1.parts;have fb:=hby.ext ex1;have h0:=fb.c0;have h1:=fb.c1;have h2:=fb.c2;have h3:=fb.c3)
      | (go_at_call 131;refine (refDNorm_any _ _ _ (by exact hv.ext ex1) (by exact hT.below ex1)).mono ?_;rintro e w2 ⟨r2,rfl,hr2,hw2⟩;have ex2:Ext W w2:=Ext.trans ex1 hw2;obtain ⟨yb,yn,yo,yk,yc,ye,rfl⟩:=hr2.parts;have hr1:=hr1.ext hw2;clear h0 h1 h2 h3;have fa:=hbx.ext ex2;have fb:=hby.ext ex2;have a0:=fa.c0;have a1:=fa.c1;have a2:=fa.c2;have a3:=fa.c3;have b0:=fb.c0;have b1:=fb.c1;have b2:=fb.c2;have b3:=fb.c3;have g0:=fa.f 0;have g1:=fa.f 1;have g2:=fa.f 2;have g3:=fa.f 3;have h0:=fb.f 0;have h1:=fb.f 1;have h2:=fb.f 2;have h3:=fb.f 3))
    all_goals
      go_wp2
      go_meet
    all_goals
      clear a0 a1 a2 a3 b0 b1 b2 b3 g0 g1 g2 g3 h0 h1 h2 h3 k0 k1 k2 k3 l0 l1 l2 l3
      obtain ⟨hB2,hB2'⟩:=bnext hB (by omega) ex2
      obtain ⟨Z,hZ,z1,z2,z3,z4,z5,z6,z7⟩:=two_dyads fa fb (by omega) (Nat.le_refl B) (Nat.le_succ B) hr1 hr2 hB2
      rw [←hZ]
      exact ⟨_,_,_,_,_,_,_,_,_,_,_,_,z1,z2,z4,z5,z3,fun k hk1 hk2=>by rw [z6 k (by omega) (by omega)];exact Below.block ex2 k hk2,by rw [z7];exact Below.size ex2⟩
  case rest =>
    obtain ⟨xb,xn,xo,xk,xc,xe,yb,yn,yo,yk,yc,ye,hx,hy,bx,bY,hB1,hkeep,hzc⟩:=hcut
    have hT1:=(show Table w from HT0.out).below (w':=wc) (by rw [HBe.out];exact hB1)
    have hrx:DBox wc (B+1+1) false false none 0 0 0:=by
      have:=hrx
      unfold DBox at this ⊢
      rw [hkeep _ (by omega) (by omega)];exact this
    have HT:=Lib.hid hT1
    clear hT1 hbx hby hu hv hT hB hkeep
    have k0:=bx.c0
    have k1:=bx.c1
    have k2:=bx.c2
    have k3:=bx.c3
    have l0:=bY.c0
    have l1:=bY.c1
    have l2:=bY.c2
    have l3:=bY.c3
    cases d with
    | none =>
      obtain rfl:=dn_none hx
      go_wp2_with fail
      refine (refBad_any _).mono ?_
      rintro e w1 ⟨rfl,hw1⟩
      have c1:=hrx.below hw1
      obtain ⟨hB2,hB2'⟩:=bnext hB1 (by omega) hw1
      have q0:=c1.c0
      have q1:=c1.c1
      have q2:=c1.c2
      have q3:=c1.c3
      have f0:=c1.f 0
      have f1:=c1.f 1
      have f2:=c1.f 2
      have f3:=c1.f 3
      have hres:=dn_stored c1 (dn_bad w1) w hB2 (by omega)
      have z3:=c1.stored true false none 0 0 0
      have z0:=z3.c0
      have z1:=z3.c1
      have z2:=z3.c2
      have z4:=z3.c3
      have HRES:=Lib.hid hres;clear hres z3
      go_wp2
      refine bodyPost_ret (v:=.agg #[.bool true,.bool false,.slice none 0 0,.int .i64 0]) (by simp [results,Tryz.results95,go_sem,z0,z1,z2,z4]) rfl ⟨_,rfl,?_,?_⟩
      · exact HRES.out.1
      · show Below _ _ _;rw [HBe.out];exact HRES.out.2
    | some p =>
      obtain ⟨m,f⟩:=p
      obtain ⟨rfl,rfl,hm⟩:=dn_some hx
      cases d' with
      | none =>
        obtain rfl:=dn_none hy
        go_wp2_with fail
        refine (refBad_any _).mono ?_
        rintro e w1 ⟨rfl,hw1⟩
        have c1:=hrx.below hw1
        obtain ⟨hB2,hB2'⟩:=bnext hB1 (by omega) hw1
        have q0:=c1.c0
        have q1:=c1.c1
        have q2:=c1.c2
        have q3:=c1.c3
        have f0:=c1.f 0
        have f1:=c1.f 1
        have f2:=c1.f 2
        have f3:=c1.f 3
        have hres:=dn_stored c1 (dn_bad w1) w hB2 (by omega)
        have z3:=c1.stored true false none 0 0 0
        have z0:=z3.c0
        have z1:=z3.c1
        have z2:=z3.c2
        have z4:=z3.c3
        have HRES:=Lib.hid hres;clear hres z3
        go_wp2
        refine bodyPost_ret (v:=.agg #[.bool true,.bool false,.slice none 0 0,.int .i64 0]) (by simp [results,Tryz.results95,go_sem,z0,z1,z2,z4]) rfl ⟨_,rfl,?_,?_⟩
        · exact HRES.out.1
        · show Below _ _ _;rw [HBe.out];exact HRES.out.2
      | some q =>
        obtain ⟨m',f'⟩:=q
        obtain ⟨rfl,rfl,hm'⟩:=dn_some hy
        have hnx:=nd_blen hx.1
        have hny:=nd_blen hy.1
        simp only [dm,dx,Option.getD_some] at hnx hny
        obtain ⟨hnx,hx0,hx1⟩:=hnx
        obtain ⟨hny,hy0,hy1⟩:=hny
        have gm:=bn_bg_of hm (by omega)
        have gm':=bn_bg_of hm' (by omega)
        clear hx hy hm hm'
        have HC:=Lib.hid (show ∀ wx,Ext wc wx→(wx.cell? ⟨B,1,none⟩=some (.bool xn)∧wx.cell? ⟨B,2,none⟩=some (.slice xo xk xc)∧wx.cell? ⟨B,3,none⟩=some (.int .i64 xe))∧(wx.cell? ⟨B+1,1,none⟩=some (.bool yn)∧wx.cell? ⟨B+1,2,none⟩=some (.slice yo yk yc)∧wx.cell? ⟨B+1,3,none⟩=some (.int .i64 ye)) from fun wx h =>
          ⟨⟨(bx.ext h).c1,(bx.ext h).c2,(bx.ext h).c3⟩,⟨(bY.ext h).c1,(bY.ext h).c2,(bY.ext h).c3⟩⟩)
        have ex0:Ext wc wc.drew:=(Below.refl _ _).drew
        have HBL:=Lib.hid (show blen (m*m').natAbs≤1000000 by have:=blen_mul_le m m';omega)
        have hwr:IntKind.i64.wrap (xe+ye)=xe+ye:=IntWalk.i64_in _ ⟨by omega,by omega⟩
        go_upto_region 4 with fail
        go_region_held3 (fun wx=>(wx.cell? ⟨B,1,none⟩=some (.bool xn)∧wx.cell? ⟨B,2,none⟩=some (.slice xo xk xc)∧wx.cell? ⟨B,3,none⟩=some (.int .i64 xe))∧(wx.cell? ⟨B+1,1,none⟩=some (.bool yn)∧wx.cell? ⟨B+1,2,none⟩=some (.slice yo yk yc)∧wx.cell? ⟨B+1,3,none⟩=some (.int .i64 ye)))
          (first | exact HC.out _ (by assumption) | (refine ⟨⟨?_,?_,?_⟩,?_,?_,?_⟩ <;> go_simp))
          (first
            | (go_at_call 138;refine (refMul_any _ _ _ _ _ _ _ _ _ _ _ (by exact gm.drew) (by exact gm'.drew)).mono ?_;rintro e w1 ⟨nr,ro,l,cr,rfl,hr,hw1⟩;have ex1:Ext wc w1:=ex0.trans hw1)
            | (go_at_call 134;refine (refMake_any _ _ _ _ _ _ _ (bn_bg_of hr HBL.out) HBL.out (by omega) (by omega) (HT.out.below ex1)).mono ?_;rintro e w2 ⟨r,rfl,hr2,hw2⟩;have ex2:Ext wc w2:=ex1.trans hw2;obtain ⟨rb,rn,ro2,rk,rc,re,rfl⟩:=hr2.parts;have c2:=hrx.ext ex2;have q0:=c2.c0;have q1:=c2.c1;have q2:=c2.c2;have q3:=c2.c3;have f0:=c2.f 0;have f1:=c2.f 1;have f2:=c2.f 2;have f3:=c2.f 3;obtain ⟨⟨a1,a2,a3⟩,b1,b2,b3⟩:=HC.out _ ex2))
        have hB2:Below B w w2:=(bnext hB1 (by omega) ex2).1
        have hres:=dn_stored c2 hr2 w hB2 (by omega)
        have z3:=c2.stored rb rn ro2 rk rc re
        have z0:=z3.c0
        have z1:=z3.c1
        have z2:=z3.c2
        have z4:=z3.c3
        have HRES:=Lib.hid hres;clear hres z3
        go_wp2
        refine bodyPost_ret (v:=.agg #[.bool rb,.bool rn,.slice ro2 rk rc,.int .i64 re]) (by simp [results,Tryz.results95,go_sem,z0,z1,z2,z4]) rfl ⟨_,rfl,?_,?_⟩
        · exact HRES.out.1
        · show Below _ _ _;rw [HBe.out];exact HRES.out.2
open Go.RowKit
def prodI (i:Int) (d:Dy) (j:Int) (e:Dy):Int:=if sgN i d*sgN j e≠0∧(i≠0∨j≠0) then sgN i d*sgN j e else 0
def prodD (i:Int) (d:Dy) (j:Int) (e:Dy):Dy:=if sgN i d*sgN j e=0 then some (0,0) else if i≠0∨j≠0 then some (0,0) else dmul d e
set_option maxRecDepth 100000 in
set_option maxHeartbeats 16000000 in
theorem refProduct_any (u v:Value) (i j:Int) (d e:Dy) (hi : -1≤i∧i≤1) (hj : -1≤j∧j≤1) (w:World) (hu:NumV w u i d) (hv:NumV w v j e) (hT:Table w) :
    Calls Tryz.prog 52 #[u,v] w fun x w'=>∃ r,x=.returned r∧NumV w' r (prodI i d j e) (prodD i d j e)∧Ext w w':=by
  obtain ⟨k,hk⟩:∃ k,prodI i d j e=k:=⟨_,rfl⟩
  obtain ⟨t,ht⟩:∃ t,prodD i d j e=t:=⟨_,rfl⟩
  rw [hk,ht]
  unfold prodI at hk
  unfold prodD at ht
  obtain ⟨sa,hsa⟩:∃ s,sgN i d=s:=⟨_,rfl⟩
  obtain ⟨sb,hsb⟩:∃ s,sgN j e=s:=⟨_,rfl⟩
  have b1 : -1≤sa∧sa≤1:=by rw [←hsa];unfold sgN sgn3;split;exact hi;split <;> (try split) <;> omega
  have b2 : -1≤sb∧sb≤1:=by rw [←hsb];unfold sgN sgn3;split;exact hj;split <;> (try split) <;> omega
  rw [hsa,hsb] at hk ht
  have SA:=Lib.hid (fun wx (h:Ext w wx)=>refSgN_any u i d sa hsa wx (hu.ext h) (hT.below h))
  have SB:=Lib.hid (fun wx (h:Ext w wx)=>refSgN_any v j e sb hsb wx (hv.ext h) (hT.below h))
  obtain ⟨s,hs⟩:∃ s,sa*sb=s:=⟨_,rfl⟩
  have hsB : -1≤s∧s≤1:=by
    rw [←hs]
    rcases (show sa = -1∨sa=0∨sa=1 by omega) with h | h | h <;> rw [h] <;> omega
  have hw:IntKind.i64.wrap (sa*sb)=s:=by rw [hs];exact IntWalk.i64_in _ ⟨by omega,by omega⟩
  rw [hs] at hk ht
  obtain ⟨ub,un,uo,uk,uc,uf,rfl,hu⟩:=hu
  obtain ⟨vb,vn,vo,vk,vc,vf,rfl,hv⟩:=hv
  have HT:=Lib.hid hT
  have hk:=Lib.hid hk
  have ht:=Lib.hid ht
  clear hsa hsb b1 b2 hs hi hj hT
  go_enter Tryz.func52,Tryz.ntmps52
  go_upto_region 1 with fail
  obtain ⟨W,hW,hB,hx,hy,hz,hsz⟩:=nbx_three w (ub:=ub) (un:=un) (uo:=uo) (uk:=uk) (uc:=uc) (uf:=uf) (i:=i) (vb:=vb) (vn:=vn) (vo:=vo) (vk:=vk) (vc:=vc) (vf:=vf) (j:=j)
  rw [←hW]
  clear hW
  have HE:=Lib.hid (show Ext w W from hB)
  have HT:=Lib.hid (HT.out.below hB)
  have hu:=hu.ext hB
  have hv:=hv.ext hB
  generalize hBe:w.heap.size=B at *
  have HBe:=Lib.hid hBe
  have HB:Hid (Below B w W):=Lib.hid hB
  clear hBe hB
  have HS:=Lib.hid hsz
  clear hsz
  have HC:=Lib.hid (show ∀ wx,Ext W wx→(wx.cell? ⟨B,0,none⟩=some (.int .i64 i)∧wx.cell? ⟨B,1,none⟩=some (.bool ub)∧wx.cell? ⟨B,2,none⟩=some (.bool un)∧wx.cell? ⟨B,3,none⟩=some (.slice uo uk uc)∧wx.cell? ⟨B,4,none⟩=some (.int .i64 uf))∧(wx.cell? ⟨(B+1),0,none⟩=some (.int .i64 j)∧wx.cell? ⟨(B+1),1,none⟩=some (.bool vb)∧wx.cell? ⟨(B+1),2,none⟩=some (.bool vn)∧wx.cell? ⟨(B+1),3,none⟩=some (.slice vo vk vc)∧wx.cell? ⟨(B+1),4,none⟩=some (.int .i64 vf)) from fun wx h=>⟨⟨(hx.below h).c0,(hx.below h).c1,(hx.below h).c2,(hx.below h).c3,(hx.below h).c4⟩,(hy.below h).c0,(hy.below h).c1,(hy.below h).c2,(hy.below h).c3,(hy.below h).c4⟩)
  have HZ:=Lib.hid (show ∀ wx,Ext W wx→NBx wx (B+1+1) 0 false false none 0 0 0 from fun wx h=>hz.below h)
  have HU:=Lib.hid (fun wx (h:Ext W wx)=>(hu.ext h).dl)
  have HV:=Lib.hid (fun wx (h:Ext W wx)=>(hv.ext h).dl)
  clear hx hy hz hu hv
  have st:Ext W W:=Ext.refl _
  obtain ⟨⟨x0,x1,x2,x3,x4⟩,y0,y1,y2,y3,y4⟩:=HC.out _ st
  have st:Ext W _:=st.drew
  go_region_held3 (fun wx=>(wx.cell? ⟨B,0,none⟩=some (.int .i64 i)∧wx.cell? ⟨B,1,none⟩=some (.bool ub)∧wx.cell? ⟨B,2,none⟩=some (.bool un)∧wx.cell? ⟨B,3,none⟩=some (.slice uo uk uc)∧wx.cell? ⟨B,4,none⟩=some (.int .i64 uf))∧(wx.cell? ⟨(B+1),0,none⟩=some (.int .i64 j)∧wx.cell? ⟨(B+1),1,none⟩=some (.bool vb)∧wx.cell? ⟨(B+1),2,none⟩=some (.bool vn)∧wx.cell? ⟨(B+1),3,none⟩=some (.slice vo vk vc)∧wx.cell? ⟨(B+1),4,none⟩=some (.int .i64 vf)))
    (first | exact HC.out _ (by with_reducible assumption))
    (first
      | (go_at_call 55;(with_reducible refine (SA.out _ (Ext.trans HE.out (by with_reducible assumption))).mono ?_);rintro r wn ⟨rfl,hE⟩;have st:Ext W wn:=Ext.trans (by with_reducible assumption) hE;clear hE)
      | (go_at_call 55;(with_reducible refine (SB.out _ (Ext.trans HE.out (by with_reducible assumption))).mono ?_);rintro r wn ⟨rfl,hE⟩;have st:Ext W wn:=Ext.trans (by with_reducible assumption) hE;clear hE))
  clear x0 x1 x2 x3 x4 y0 y1 y2 y3 y4
  obtain ⟨⟨x0,x1,x2,x3,x4⟩,y0,y1,y2,y3,y4⟩:=HC.out _ st
  by_cases hs0:s=0
  · have s1:(s != 0)=false:=by simp [hs0]
    have s2:(s == 0)=true:=by simp [hs0]
    obtain rfl:(0:Int)=k:=by rw [←hk.out,if_neg (by simp [hs0])]
    obtain rfl:some (0,0)=t:=by rw [←ht.out,if_pos hs0]
    clear hk ht hs0
    have hz:=HZ.out _ st
    have q0:=hz.c0
    have q1:=hz.c1
    have q2:=hz.c2
    have q3:=hz.c3
    have q4:=hz.c4
    have f0:=hz.f 0
    have f1:=hz.f 1
    have f2:=hz.f 2
    have f3:=hz.f 3
    have f4:=hz.f 4
    have hres:=numV_stored (j:=0) hz (dn_zero _) (HB.out.trans (Below.mono st (by have:=HS.out;omega))) (by omega)
    have z:=hz.stored 0 false false none 0 0 0
    have z0:=z.c0
    have z1:=z.c1
    have z2:=z.c2
    have z3:=z.c3
    have z4:=z.c4
    have HRES:=Lib.hid hres
    clear hres z
    go_wp2
    refine bodyPost_ret (v:=.agg #[.int .i64 0,.bool false,.bool false,.slice none 0 0,.int .i64 0]) (by simp [results,Tryz.results52,go_sem,z0,z1,z2,z3,z4]) rfl ⟨_,rfl,HRES.out.1,?_⟩
    show Below _ _ _
    rw [HBe.out]
    exact HRES.out.2
  · have s1:(s != 0)=true:=by simp [hs0]
    have s2:(s == 0)=false:=by simp [hs0]
    by_cases hi:i=0
    · have bi:(i != 0)=false:=by simp [hi]
      by_cases hj:j=0
      · have bj:(j != 0)=false:=by simp [hj]
        obtain rfl:(0:Int)=k:=by rw [←hk.out,if_neg (by simp [hi,hj])]
        obtain rfl:dmul d e=t:=by rw [←ht.out,if_neg hs0,if_neg (by simp [hi,hj])]
        clear hk ht hs0 hi hj
        go_wp2_with fail
        refine (ref_dmul_any _ _ d e _ (HU.out _ st) (HV.out _ st) (HT.out.below st)).mono ?_
        rintro r w1 ⟨v3,rfl,h3,hE⟩
        obtain ⟨rb,rn,ro,rk,rc,rf,rfl⟩:=h3.parts
        have st:Ext W w1:=Ext.trans st hE
        have hz:=HZ.out _ st
        have HB1:Below B w w1:=HB.out.trans (Below.mono st (by have:=HS.out;omega))
        clear x0 x1 x2 x3 x4 y0 y1 y2 y3 y4 hE bi bj s1 s2
        have q0:=hz.c0
        have q1:=hz.c1
        have q2:=hz.c2
        have q3:=hz.c3
        have q4:=hz.c4
        have f0:=hz.f 0
        have f1:=hz.f 1
        have f2:=hz.f 2
        have f3:=hz.f 3
        have f4:=hz.f 4
        have hres:=numV_stored (j:=0) hz h3 HB1 (by omega)
        have z:=hz.stored 0 rb rn ro rk rc rf
        have z0:=z.c0
        have z1:=z.c1
        have z2:=z.c2
        have z3:=z.c3
        have z4:=z.c4
        have HRES:=Lib.hid hres
        clear hres z
        go_wp2
        refine bodyPost_ret (v:=.agg #[.int .i64 0,.bool rb,.bool rn,.slice ro rk rc,.int .i64 rf]) (by simp [results,Tryz.results52,go_sem,z0,z1,z2,z3,z4]) rfl ⟨_,rfl,HRES.out.1,?_⟩
        show Below _ _ _
        rw [HBe.out]
        exact HRES.out.2
      · have bj:(j != 0)=true:=by simp [hj]
        obtain rfl:s=k:=by rw [←hk.out,if_pos ⟨hs0,Or.inr hj⟩]
        obtain rfl:some (0,0)=t:=by rw [←ht.out,if_neg hs0,if_pos (Or.inr hj)]
        clear hk ht hs0 hi hj
        have hz:=HZ.out _ st
        have q0:=hz.c0
        have q1:=hz.c1
        have q2:=hz.c2
        have q3:=hz.c3
        have q4:=hz.c4
        have f0:=hz.f 0
        have f1:=hz.f 1
        have f2:=hz.f 2
        have f3:=hz.f 3
        have f4:=hz.f 4
        have hres:=numV_stored (j:=s) hz (dn_zero _) (HB.out.trans (Below.mono st (by have:=HS.out;omega))) (by omega)
        have z:=hz.stored s false false none 0 0 0
        have z0:=z.c0
        have z1:=z.c1
        have z2:=z.c2
        have z3:=z.c3
        have z4:=z.c4
        have HRES:=Lib.hid hres
        clear hres z
        go_wp2
        refine bodyPost_ret (v:=.agg #[.int .i64 s,.bool false,.bool false,.slice none 0 0,.int .i64 0]) (by simp [results,Tryz.results52,go_sem,z0,z1,z2,z3,z4]) rfl ⟨_,rfl,HRES.out.1,?_⟩
        show Below _ _ _
        rw [HBe.out]
        exact HRES.out.2
    · have bi:(i != 0)=true:=by simp [hi]
      obtain rfl:s=k:=by rw [←hk.out,if_pos ⟨hs0,Or.inl hi⟩]
      obtain rfl:some (0,0)=t:=by rw [←ht.out,if_neg hs0,if_pos (Or.inl hi)]
      clear hk ht hs0 hi
      have hz:=HZ.out _ st
      have q0:=hz.c0
      have q1:=hz.c1
      have q2:=hz.c2
      have q3:=hz.c3
      have q4:=hz.c4
      have f0:=hz.f 0
      have f1:=hz.f 1
      have f2:=hz.f 2
      have f3:=hz.f 3
      have f4:=hz.f 4
      have hres:=numV_stored (j:=s) hz (dn_zero _) (HB.out.trans (Below.mono st (by have:=HS.out;omega))) (by omega)
      have z:=hz.stored s false false none 0 0 0
      have z0:=z.c0
      have z1:=z.c1
      have z2:=z.c2
      have z3:=z.c3
      have z4:=z.c4
      have HRES:=Lib.hid hres
      clear hres z
      go_wp2
      refine bodyPost_ret (v:=.agg #[.int .i64 s,.bool false,.bool false,.slice none 0 0,.int .i64 0]) (by simp [results,Tryz.results52,go_sem,z0,z1,z2,z3,z4]) rfl ⟨_,rfl,HRES.out.1,?_⟩
      show Below _ _ _
      rw [HBe.out]
      exact HRES.out.2
open Go Go.RowKit
noncomputable def refMul_r3_code:Code:=((Tryz.f16.body.bind (regOf 3)).getD .skip)
set_option maxRecDepth 100000 in
set_option maxHeartbeats 20000000 in
theorem refMul_r3 {f0 f1 f4 f5 f6 f7 f8 f9 f10 f11 f12 f13 f14 f15 f16 f17 f18 f19 f20 f21 f22 f23 f24 f25 f26 f27 f28 f29 f30 f31 f32 f33 f34 f35 f36 f37 f38 f39 f40 f41 f42 f43 f44 f45 f46 f47 f48 f49 f50:Value} {J K':Act→World→Prop} {Q':Exit→Act→World→Prop} {a b c d B:Nat} {V:World}
    (hJ:∀ (a':Act) (wx:World),(∃ u5 u6 u7 u8 u20 u21 u22 u23 u24 u25 u26 u27 u28 u29 u30 u31 u32 u33 u34 u35 u36 u37 u38 u39 u40 u41 u42 u43 u44 u45 u46 u47 u48 u49 u50:Value,(∃ g0 g1 g2 g3 v0 v1 v2 v3,u5=.pointer (some ⟨g0,0,none⟩)∧u6=.pointer (some ⟨g1,0,none⟩)∧u7=.pointer (some ⟨g2,0,none⟩)∧u8=.pointer (some ⟨g3,0,none⟩)∧(NBv wx g0 v0∧NumV wx v0 (numI a) (numD a)∧V.heap.size≤g0)∧(NBv wx g1 v1∧NumV wx v1 (numI b) (numD b)∧V.heap.size≤g1)∧(NBv wx g2 v2∧NumV wx v2 (numI c) (numD c)∧V.heap.size≤g2)∧(NBv wx g3 v3∧NumV wx v3 (numI d) (numD d)∧V.heap.size≤g3)∧(g0≠g1∧g0≠g2∧g0≠g3∧g1≠g2∧g1≠g3∧g2≠g3)∧Ext V wx)∧a'=⟨#[f0,f1,.pointer (some ⟨B,0,none⟩),.pointer (some ⟨B+1,0,none⟩),f4,u5,u6,u7,u8,f9,f10,f11,f12,f13,f14,f15,f16,f17,f18,f19,u20,u21,u22,u23,u24,u25,u26,u27,u28,u29,u30,u31,u32,u33,u34,u35,u36,u37,u38,u39,u40,u41,u42,u43,u44,u45,u46,u47,u48,u49,u50],[]⟩)→J a' wx) (hK:∀ (a':Act) (wx:World),Met J a' wx→K' a' wx)
    (NA:Hid (∀ w,Table w→Calls Tryz.prog 48 #[.int .u64 (a:Int)] w fun e w'=>∃ v,e=.returned v∧NumV w' v (numI a) (numD a)∧Ext w w')) (NB:Hid (∀ w,Table w→Calls Tryz.prog 48 #[.int .u64 (b:Int)] w fun e w'=>∃ v,e=.returned v∧NumV w' v (numI b) (numD b)∧Ext w w')) (NC:Hid (∀ w,Table w→Calls Tryz.prog 48 #[.int .u64 (c:Int)] w fun e w'=>∃ v,e=.returned v∧NumV w' v (numI c) (numD c)∧Ext w w')) (ND:Hid (∀ w,Table w→Calls Tryz.prog 48 #[.int .u64 (d:Int)] w fun e w'=>∃ v,e=.returned v∧NumV w' v (numI d) (numD d)∧Ext w w')) (HTV:Hid (∀ wx,Ext V wx→Table wx)) (HC0:Hid (∀ wx,Ext V wx→wx.cell? ⟨B,0,none⟩=some (.int .u64 (a:Int)))) (HC1:Hid (∀ wx,Ext V wx→wx.cell? ⟨B,1,none⟩=some (.int .u64 (b:Int)))) (HC2:Hid (∀ wx,Ext V wx→wx.cell? ⟨(B+1),0,none⟩=some (.int .u64 (c:Int)))) (HC3:Hid (∀ wx,Ext V wx→wx.cell? ⟨(B+1),1,none⟩=some (.int .u64 (d:Int)))) :
    Code.wp Tryz.prog refMul_r3_code (Exit.then K' Q') ⟨#[f0,f1,.pointer (some ⟨B,0,none⟩),.pointer (some ⟨B+1,0,none⟩),f4,f5,f6,f7,f8,f9,f10,f11,f12,f13,f14,f15,f16,f17,f18,f19,f20,f21,f22,f23,f24,f25,f26,f27,f28,f29,f30,f31,f32,f33,f34,f35,f36,f37,f38,f39,f40,f41,f42,f43,f44,f45,f46,f47,f48,f49,f50],[]⟩ V:=by
  conv=>arg 2;whnf
  refine wp_region_any (by kernel_rfl) ?_
  refine region_vars (V:=V) (fr:=fun t:Nat→Value=>(⟨#[f0,f1,.pointer (some ⟨B,0,none⟩),.pointer (some ⟨B+1,0,none⟩),f4,(t 5),(t 6),(t 7),(t 8),f9,f10,f11,f12,f13,f14,f15,f16,f17,f18,f19,(t 20),(t 21),(t 22),(t 23),(t 24),(t 25),(t 26),(t 27),(t 28),(t 29),(t 30),(t 31),f32,f33,f34,f35,f36,f37,f38,f39,f40,f41,f42,f43,f44,f45,f46,f47,f48,f49,f50],[]⟩:Act)) (m:=12) (n:=4) (dst:=fun j=>#[20,21,22,23,24,25,26,27,28,29,30,31].getD j 0) (vs:=fun k=>#[5,6,7,8].getD k 0) (src:=fun k=>#[22,25,28,31].getD k 0)
    (F:=fun j=>match j with | 0=>(fun v _=>v=.pointer (some ⟨B,0,none⟩)) | 1=>(fun v _=>v=.int .u64 (a:Int)) | 2=>(fun v w=>NumV w v (numI a) (numD a)) | 3=>(fun v _=>v=.pointer (some ⟨B,1,none⟩)) | 4=>(fun v _=>v=.int .u64 (b:Int)) | 5=>(fun v w=>NumV w v (numI b) (numD b)) | 6=>(fun v _=>v=.pointer (some ⟨(B+1),0,none⟩)) | 7=>(fun v _=>v=.int .u64 (c:Int)) | 8=>(fun v w=>NumV w v (numI c) (numD c)) | 9=>(fun v _=>v=.pointer (some ⟨(B+1),1,none⟩)) | 10=>(fun v _=>v=.int .u64 (d:Int)) | 11=>(fun v w=>NumV w v (numI d) (numD d)) | _=>fun _ _=>True) ?_ (fun s=>#[f0,f1,.pointer (some ⟨B,0,none⟩),.pointer (some ⟨B+1,0,none⟩),f4,f5,f6,f7,f8,f9,f10,f11,f12,f13,f14,f15,f16,f17,f18,f19,f20,f21,f22,f23,f24,f25,f26,f27,f28,f29,f30,f31,f32,f33,f34,f35,f36,f37,f38,f39,f40,f41,f42,f43,f44,f45,f46,f47,f48,f49,f50].getD s undef) (World.drew _) ((Below.refl _ _).drew) ?_
  · refine VRegion.mk (by kernel_rfl) (by kernel_rfl) (by decide) (by decide) (by decide) ?sd ?sa ?stays ?step ?alloc ?store ?isnum
    case sd =>
      intro k hk
      match k,hk with
      | 0,_=>exact ⟨2,by decide,rfl,by kernel_rfl⟩
      | 1,_=>exact ⟨5,by decide,rfl,by kernel_rfl⟩
      | 2,_=>exact ⟨8,by decide,rfl,by kernel_rfl⟩
      | 3,_=>exact ⟨11,by decide,rfl,by kernel_rfl⟩
    case sa =>
      intro k hk
      match k,hk with
      | 0,_=>show (_:Bool)=true;kernel_rfl
      | 1,_=>show (_:Bool)=true;kernel_rfl
      | 2,_=>show (_:Bool)=true;kernel_rfl
      | 3,_=>show (_:Bool)=true;kernel_rfl
    case stays =>
      intro j hj
      match j,hj with
      | 0,_=>exact Stays.eq _
      | 1,_=>exact Stays.eq _
      | 2,_=>exact Stays.num _ _
      | 3,_=>exact Stays.eq _
      | 4,_=>exact Stays.eq _
      | 5,_=>exact Stays.num _ _
      | 6,_=>exact Stays.eq _
      | 7,_=>exact Stays.eq _
      | 8,_=>exact Stays.num _ _
      | 9,_=>exact Stays.eq _
      | 10,_=>exact Stays.eq _
      | 11,_=>exact Stays.num _ _
    case step =>
      intro j hj t w hE hd K hK
      match j,hj with
      | 0,_ =>
        refine wpOp_step rfl (fun K' hK'=>?_)
        go_simp
        exact hK' _ _ (hK (.pointer (some ⟨B,0,none⟩)) w (Ext.refl _) rfl)
      | 1,_ =>
        have d1:t 20=.pointer (some ⟨B,0,none⟩):=hd 0 (by decide) (by kernel_rfl)
        have c1:=HC0.out w hE
        rw [upd_self d1] at hK ⊢
        have e1:upd t 20 (.pointer (some ⟨B,0,none⟩)) 20=.pointer (some ⟨B,0,none⟩):=rfl
        clear hd d1
        refine wpOp_step rfl (fun K' hK'=>?_)
        go_simp
        exact hK' _ _ (hK (.int .u64 (a:Int)) w (Ext.refl _) rfl)
      | 2,_ =>
        have d1:t 21=.int .u64 (a:Int):=hd 1 (by decide) (by kernel_rfl)
        have hT:=HTV.out w hE
        rw [upd_self d1] at hK ⊢
        have e1:upd t 21 (.int .u64 (a:Int)) 21=.int .u64 (a:Int):=rfl
        clear hd d1
        refine wpOp_step rfl (fun K' hK'=>?_)
        go_simp
        go_wp2_with (go_at_call 48;(with_reducible refine (NA.out _ hT).mono ?_);rintro r wn ⟨v,rfl,hv,hE'⟩)
        first | exact hK v wn hE' hv | exact hK' _ _ (hK v wn hE' hv)
      | 3,_ =>
        refine wpOp_step rfl (fun K' hK'=>?_)
        go_simp
        exact hK' _ _ (hK (.pointer (some ⟨B,1,none⟩)) w (Ext.refl _) rfl)
      | 4,_ =>
        have d1:t 23=.pointer (some ⟨B,1,none⟩):=hd 3 (by decide) (by kernel_rfl)
        have c1:=HC1.out w hE
        rw [upd_self d1] at hK ⊢
        have e1:upd t 23 (.pointer (some ⟨B,1,none⟩)) 23=.pointer (some ⟨B,1,none⟩):=rfl
        clear hd d1
        refine wpOp_step rfl (fun K' hK'=>?_)
        go_simp
        exact hK' _ _ (hK (.int .u64 (b:Int)) w (Ext.refl _) rfl)
      | 5,_ =>
        have d1:t 24=.int .u64 (b:Int):=hd 4 (by decide) (by kernel_rfl)
        have hT:=HTV.out w hE
        rw [upd_self d1] at hK ⊢
        have e1:upd t 24 (.int .u64 (b:Int)) 24=.int .u64 (b:Int):=rfl
        clear hd d1
        refine wpOp_step rfl (fun K' hK'=>?_)
        go_simp
        go_wp2_with (go_at_call 48;(with_reducible refine (NB.out _ hT).mono ?_);rintro r wn ⟨v,rfl,hv,hE'⟩)
        first | exact hK v wn hE' hv | exact hK' _ _ (hK v wn hE' hv)
      | 6,_ =>
        refine wpOp_step rfl (fun K' hK'=>?_)
        go_simp
        exact hK' _ _ (hK (.pointer (some ⟨(B+1),0,none⟩)) w (Ext.refl _) rfl)
      | 7,_ =>
        have d1:t 26=.pointer (some ⟨(B+1),0,none⟩):=hd 6 (by decide) (by kernel_rfl)
        have c1:=HC2.out w hE
        rw [upd_self d1] at hK ⊢
        have e1:upd t 26 (.pointer (some ⟨(B+1),0,none⟩)) 26=.pointer (some ⟨(B+1),0,none⟩):=rfl
        clear hd d1
        refine wpOp_step rfl (fun K' hK'=>?_)
        go_simp
        exact hK' _ _ (hK (.int .u64 (c:Int)) w (Ext.refl _) rfl)
      | 8,_ =>
        have d1:t 27=.int .u64 (c:Int):=hd 7 (by decide) (by kernel_rfl)
        have hT:=HTV.out w hE
        rw [upd_self d1] at hK ⊢
        have e1:upd t 27 (.int .u64 (c:Int)) 27=.int .u64 (c:Int):=rfl
        clear hd d1
        refine wpOp_step rfl (fun K' hK'=>?_)
        go_simp
        go_wp2_with (go_at_call 48;(with_reducible refine (NC.out _ hT).mono ?_);rintro r wn ⟨v,rfl,hv,hE'⟩)
        first | exact hK v wn hE' hv | exact hK' _ _ (hK v wn hE' hv)
      | 9,_ =>
        refine wpOp_step rfl (fun K' hK'=>?_)
        go_simp
        exact hK' _ _ (hK (.pointer (some ⟨(B+1),1,none⟩)) w (Ext.refl _) rfl)
      | 10,_ =>
        have d1:t 29=.pointer (some ⟨(B+1),1,none⟩):=hd 9 (by decide) (by kernel_rfl)
        have c1:=HC3.out w hE
        rw [upd_self d1] at hK ⊢
        have e1:upd t 29 (.pointer (some ⟨(B+1),1,none⟩)) 29=.pointer (some ⟨(B+1),1,none⟩):=rfl
        clear hd d1
        refine wpOp_step rfl (fun K' hK'=>?_)
        go_simp
        exact hK' _ _ (hK (.int .u64 (d:Int)) w (Ext.refl _) rfl)
      | 11,_ =>
        have d1:t 30=.int .u64 (d:Int):=hd 10 (by decide) (by kernel_rfl)
        have hT:=HTV.out w hE
        rw [upd_self d1] at hK ⊢
        have e1:upd t 30 (.int .u64 (d:Int)) 30=.int .u64 (d:Int):=rfl
        clear hd d1
        refine wpOp_step rfl (fun K' hK'=>?_)
        go_simp
        go_wp2_with (go_at_call 48;(with_reducible refine (ND.out _ hT).mono ?_);rintro r wn ⟨v,rfl,hv,hE'⟩)
        first | exact hK v wn hE' hv | exact hK' _ _ (hK v wn hE' hv)
    case alloc =>
      intro k hk t w K hK
      match k,hk with
      | 0,_ =>
        refine wpOp_step rfl (fun K' hK'=>?_)
        go_simp
        exact hK' _ _ hK
      | 1,_ =>
        refine wpOp_step rfl (fun K' hK'=>?_)
        go_simp
        exact hK' _ _ hK
      | 2,_ =>
        refine wpOp_step rfl (fun K' hK'=>?_)
        go_simp
        exact hK' _ _ hK
      | 3,_ =>
        refine wpOp_step rfl (fun K' hK'=>?_)
        go_simp
        exact hK' _ _ hK
    case store =>
      intro k hk t w K g i bb nb ao N ca f hp hs hb hK
      obtain ⟨j0,b0,n0,o0,k0,c0,e0,hb⟩:=hb
      have z0:=hb.c0
      have z1:=hb.c1
      have z2:=hb.c2
      have z3:=hb.c3
      have z4:=hb.c4
      have y0:=hb.f 0
      have y1:=hb.f 1
      have y2:=hb.f 2
      have y3:=hb.f 3
      have y4:=hb.f 4
      match k,hk with
      | 0,_ =>
        have hp:t 5=.pointer (some ⟨g,0,none⟩):=hp
        have hs:t 22=.agg #[.int .i64 i,.bool bb,.bool nb,.slice ao N ca,.int .i64 f]:=hs
        rw [upd_self2 hp hs] at hK ⊢
        have e1:upd (upd t 5 (.pointer (some ⟨g,0,none⟩))) 22 (.agg #[.int .i64 i,.bool bb,.bool nb,.slice ao N ca,.int .i64 f]) 22=.agg #[.int .i64 i,.bool bb,.bool nb,.slice ao N ca,.int .i64 f]:=rfl
        have e2:upd (upd t 5 (.pointer (some ⟨g,0,none⟩))) 22 (.agg #[.int .i64 i,.bool bb,.bool nb,.slice ao N ca,.int .i64 f]) 5=.pointer (some ⟨g,0,none⟩):=rfl
        clear hp hs
        refine wpOp_step rfl (fun K' hK'=>?_)
        go_simp
        exact hK' _ _ hK
      | 1,_ =>
        have hp:t 6=.pointer (some ⟨g,0,none⟩):=hp
        have hs:t 25=.agg #[.int .i64 i,.bool bb,.bool nb,.slice ao N ca,.int .i64 f]:=hs
        rw [upd_self2 hp hs] at hK ⊢
        have e1:upd (upd t 6 (.pointer (some ⟨g,0,none⟩))) 25 (.agg #[.int .i64 i,.bool bb,.bool nb,.slice ao N ca,.int .i64 f]) 25=.agg #[.int .i64 i,.bool bb,.bool nb,.slice ao N ca,.int .i64 f]:=rfl
        have e2:upd (upd t 6 (.pointer (some ⟨g,0,none⟩))) 25 (.agg #[.int .i64 i,.bool bb,.bool nb,.slice ao N ca,.int .i64 f]) 6=.pointer (some ⟨g,0,none⟩):=rfl
        clear hp hs
        refine wpOp_step rfl (fun K' hK'=>?_)
        go_simp
        exact hK' _ _ hK
      | 2,_ =>
        have hp:t 7=.pointer (some ⟨g,0,none⟩):=hp
        have hs:t 28=.agg #[.int .i64 i,.bool bb,.bool nb,.slice ao N ca,.int .i64 f]:=hs
        rw [upd_self2 hp hs] at hK ⊢
        have e1:upd (upd t 7 (.pointer (some ⟨g,0,none⟩))) 28 (.agg #[.int .i64 i,.bool bb,.bool nb,.slice ao N ca,.int .i64 f]) 28=.agg #[.int .i64 i,.bool bb,.bool nb,.slice ao N ca,.int .i64 f]:=rfl
        have e2:upd (upd t 7 (.pointer (some ⟨g,0,none⟩))) 28 (.agg #[.int .i64 i,.bool bb,.bool nb,.slice ao N ca,.int .i64 f]) 7=.pointer (some ⟨g,0,none⟩):=rfl
        clear hp hs
        refine wpOp_step rfl (fun K' hK'=>?_)
        go_simp
        exact hK' _ _ hK
      | 3,_ =>
        have hp:t 8=.pointer (some ⟨g,0,none⟩):=hp
        have hs:t 31=.agg #[.int .i64 i,.bool bb,.bool nb,.slice ao N ca,.int .i64 f]:=hs
        rw [upd_self2 hp hs] at hK ⊢
        have e1:upd (upd t 8 (.pointer (some ⟨g,0,none⟩))) 31 (.agg #[.int .i64 i,.bool bb,.bool nb,.slice ao N ca,.int .i64 f]) 31=.agg #[.int .i64 i,.bool bb,.bool nb,.slice ao N ca,.int .i64 f]:=rfl
        have e2:upd (upd t 8 (.pointer (some ⟨g,0,none⟩))) 31 (.agg #[.int .i64 i,.bool bb,.bool nb,.slice ao N ca,.int .i64 f]) 8=.pointer (some ⟨g,0,none⟩):=rfl
        clear hp hs
        refine wpOp_step rfl (fun K' hK'=>?_)
        go_simp
        exact hK' _ _ hK
    case isnum =>
      intro k j hk hj e v w h
      match k,hk with
      | 0,_ =>
        have hall:∀ j,j<12→(#[22,25,28,31].getD 0 0)=(#[20,21,22,23,24,25,26,27,28,29,30,31].getD j 0)→j=2:=by decide
        obtain rfl:=hall j hj e
        obtain ⟨bb,nb,ao,N,ca,f,rfl,-⟩:=(show NumV w v _ _ from h)
        exact ⟨_,bb,nb,ao,N,ca,f,rfl⟩
      | 1,_ =>
        have hall:∀ j,j<12→(#[22,25,28,31].getD 1 0)=(#[20,21,22,23,24,25,26,27,28,29,30,31].getD j 0)→j=5:=by decide
        obtain rfl:=hall j hj e
        obtain ⟨bb,nb,ao,N,ca,f,rfl,-⟩:=(show NumV w v _ _ from h)
        exact ⟨_,bb,nb,ao,N,ca,f,rfl⟩
      | 2,_ =>
        have hall:∀ j,j<12→(#[22,25,28,31].getD 2 0)=(#[20,21,22,23,24,25,26,27,28,29,30,31].getD j 0)→j=8:=by decide
        obtain rfl:=hall j hj e
        obtain ⟨bb,nb,ao,N,ca,f,rfl,-⟩:=(show NumV w v _ _ from h)
        exact ⟨_,bb,nb,ao,N,ca,f,rfl⟩
      | 3,_ =>
        have hall:∀ j,j<12→(#[22,25,28,31].getD 3 0)=(#[20,21,22,23,24,25,26,27,28,29,30,31].getD j 0)→j=11:=by decide
        obtain rfl:=hall j hj e
        obtain ⟨bb,nb,ao,N,ca,f,rfl,-⟩:=(show NumV w v _ _ from h)
        exact ⟨_,bb,nb,ao,N,ca,f,rfl⟩
  · intro t g wx hE hF hg hne
    refine hK _ _ (Met.intro (hJ _ _ ?_))
    (repeat apply Exists.intro)
    refine ⟨?rel,rfl⟩
    exact ⟨g 0,g 1,g 2,g 3,t 22,t 25,t 28,t 31,(hg 0 (by decide)).1,(hg 1 (by decide)).1,(hg 2 (by decide)).1,(hg 3 (by decide)).1,⟨(hg 0 (by decide)).2.2,hF 2 (by decide),(hg 0 (by decide)).2.1⟩,⟨(hg 1 (by decide)).2.2,hF 5 (by decide),(hg 1 (by decide)).2.1⟩,⟨(hg 2 (by decide)).2.2,hF 8 (by decide),(hg 2 (by decide)).2.1⟩,⟨(hg 3 (by decide)).2.2,hF 11 (by decide),(hg 3 (by decide)).2.1⟩,⟨hne 0 1 (by decide) (by decide) (by decide),hne 0 2 (by decide) (by decide) (by decide),hne 0 3 (by decide) (by decide) (by decide),hne 1 2 (by decide) (by decide) (by decide),hne 1 3 (by decide) (by decide) (by decide),hne 2 3 (by decide) (by decide) (by decide)⟩,hE⟩
end Go.Proofs.YtkomhemjodbkpaaGreatDoor
