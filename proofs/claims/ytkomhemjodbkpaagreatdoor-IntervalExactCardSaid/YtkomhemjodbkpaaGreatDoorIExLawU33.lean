import Derived.Test.YtkomhemjodbkpaaGreatDoorIExLawU32
namespace Go.Proofs.YtkomhemjodbkpaaGreatDoor
open Go Go.RowKit
def lowN (p q:Int × Dy):Int × Dy:=if lessN q.1 q.2 p.1 p.2 then q else p
def highN (p q:Int × Dy):Int × Dy:=if lessN p.1 p.2 q.1 q.2 then q else p
def spanLo (a b c d:Int × Dy):Int × Dy:=lowN (lowN (lowN a b) c) d
def spanHi (a b c d:Int × Dy):Int × Dy:=highN (highN (highN a b) c) d
set_option maxRecDepth 100000 in
set_option maxHeartbeats 20000000 in
theorem refSpan_any (u v x y:Value) (pa pb pc pd:Int × Dy) (w:World) (hu:NumV w u pa.1 pa.2) (hv:NumV w v pb.1 pb.2) (hx:NumV w x pc.1 pc.2) (hy:NumV w y pd.1 pd.2) (hT:Table w) :
    Calls Tryz.prog 51 #[u,v,x,y] w fun e w'=>∃ lo hi,e=.returned (.tuple #[lo,hi])∧NumV w' lo (spanLo pa pb pc pd).1 (spanLo pa pb pc pd).2∧NumV w' hi (spanHi pa pb pc pd).1 (spanHi pa pb pc pd).2∧Ext w w':=by
  have NA:=Lib.hid hu
  have NB:=Lib.hid hv
  have NC:=Lib.hid hx
  have ND:=Lib.hid hy
  obtain ⟨ab,an,ao,ak,ac,af,rfl,-⟩:=hu
  obtain ⟨bb,bn,bo,bk,bc,bf,rfl,-⟩:=hv
  obtain ⟨cb,cn,co,ck,cc,cf,rfl,-⟩:=hx
  obtain ⟨db,dn,do',dk,dc,df,rfl,-⟩:=hy
  have HT:=Lib.hid hT
  clear hT
  obtain ⟨RL,hRL⟩:∃ v,spanLo pa pb pc pd=v:=⟨_,rfl⟩
  obtain ⟨RH,hRH⟩:∃ v,spanHi pa pb pc pd=v:=⟨_,rfl⟩
  rw [hRL,hRH]
  unfold spanLo at hRL
  unfold spanHi at hRH
  have HRL:=Lib.hid hRL
  have HRH:=Lib.hid hRH
  clear hRL hRH
  go_enter Tryz.func51,Tryz.ntmps51
  go_upto_region 1 with fail
  obtain ⟨V,hW,hB,ba,bb',bc',bd,bz,by',hsz⟩:=nbx_six w (ab:=ab) (an:=an) (ao:=ao) (ak:=ak) (ac:=ac) (af:=af) (ai:=pa.1) (bb:=bb) (bn:=bn) (bo:=bo) (bk:=bk) (bc:=bc) (bf:=bf) (bi:=pb.1) (cb:=cb) (cn:=cn) (co:=co) (ck:=ck) (cc:=cc) (cf:=cf) (ci:=pc.1) (db:=db) (dn:=dn) (do':=do') (dk:=dk) (dc:=dc) (df:=df) (di:=pd.1)
  rw [←hW]
  clear hW
  have HB:=Lib.hid (show Ext w V from hB)
  have HTV:=Lib.hid (fun wx (h:Ext V wx)=>(HT.out.below HB.out).below h)
  have Hb:=Lib.hid (fun wx (h:Ext V wx)=>(NB.out.ext HB.out).ext h)
  have Hc:=Lib.hid (fun wx (h:Ext V wx)=>(NC.out.ext HB.out).ext h)
  have Hd:=Lib.hid (fun wx (h:Ext V wx)=>(ND.out.ext HB.out).ext h)
  have Ha:=Lib.hid (fun wx (h:Ext V wx)=>(NA.out.ext HB.out).ext h)
  generalize hBe:w.heap.size=B at *
  have HBe:=Lib.hid hBe
  have HC:=Lib.hid (show ∀ wx,Ext V wx→(wx.cell? ⟨B,0,none⟩=some (.int .i64 pa.1)∧wx.cell? ⟨B,1,none⟩=some (.bool ab)∧wx.cell? ⟨B,2,none⟩=some (.bool an)∧wx.cell? ⟨B,3,none⟩=some (.slice ao ak ac)∧wx.cell? ⟨B,4,none⟩=some (.int .i64 af))∧(wx.cell? ⟨(B+1),0,none⟩=some (.int .i64 pb.1)∧wx.cell? ⟨(B+1),1,none⟩=some (.bool bb)∧wx.cell? ⟨(B+1),2,none⟩=some (.bool bn)∧wx.cell? ⟨(B+1),3,none⟩=some (.slice bo bk bc)∧wx.cell? ⟨(B+1),4,none⟩=some (.int .i64 bf))∧(wx.cell? ⟨(B+1+1),0,none⟩=some (.int .i64 pc.1)∧wx.cell? ⟨(B+1+1),1,none⟩=some (.bool cb)∧wx.cell? ⟨(B+1+1),2,none⟩=some (.bool cn)∧wx.cell? ⟨(B+1+1),3,none⟩=some (.slice co ck cc)∧wx.cell? ⟨(B+1+1),4,none⟩=some (.int .i64 cf))∧(wx.cell? ⟨(B+1+1+1),0,none⟩=some (.int .i64 pd.1)∧wx.cell? ⟨(B+1+1+1),1,none⟩=some (.bool db)∧wx.cell? ⟨(B+1+1+1),2,none⟩=some (.bool dn)∧wx.cell? ⟨(B+1+1+1),3,none⟩=some (.slice do' dk dc)∧wx.cell? ⟨(B+1+1+1),4,none⟩=some (.int .i64 df)) from fun wx h=>⟨⟨(ba.ext h).c0,(ba.ext h).c1,(ba.ext h).c2,(ba.ext h).c3,(ba.ext h).c4⟩,⟨(bb'.ext h).c0,(bb'.ext h).c1,(bb'.ext h).c2,(bb'.ext h).c3,(bb'.ext h).c4⟩,⟨(bc'.ext h).c0,(bc'.ext h).c1,(bc'.ext h).c2,(bc'.ext h).c3,(bc'.ext h).c4⟩,(bd.ext h).c0,(bd.ext h).c1,(bd.ext h).c2,(bd.ext h).c3,(bd.ext h).c4⟩)
  have HZ1:=Lib.hid (fun wx (h:Ext V wx)=>bz.ext h)
  have HZ2:=Lib.hid (fun wx (h:Ext V wx)=>by'.ext h)
  have HCA:=Lib.hid (fun wx (h:Ext V wx)=>(HC.out wx h).1)
  have HSZ:=Lib.hid hsz
  clear ba bb' bc' bd bz by' hB NA NB NC ND HT hBe hsz
  go_cut [10,11] from 12 (fun p q wx=>∃ g h,p=.pointer (some ⟨g,0,none⟩)∧q=.pointer (some ⟨h,0,none⟩)∧NBx wx g pa.1 ab an ao ak ac af∧NBx wx h pa.1 ab an ao ak ac af∧V.heap.size≤g∧V.heap.size≤h∧g≠h∧Ext V wx)
  case first=>exact refSpan_r1 (by with_reducible assumption) (by with_reducible assumption) HCA
  case rest =>
  obtain ⟨g,h,rfl,rfl,hbl,hbm,hVg,hVh,hgh,st⟩:=hcut
  have hl:=Ha.out _ st
  have hm:=hl
  have hbl:NBv wc g (.agg #[.int .i64 pa.1,.bool ab,.bool an,.slice ao ak ac,.int .i64 af]):=⟨_,_,_,_,_,_,_,rfl,hbl⟩
  have hbm:NBv wc h (.agg #[.int .i64 pa.1,.bool ab,.bool an,.slice ao ak ac,.int .i64 af]):=⟨_,_,_,_,_,_,_,rfl,hbm⟩
  obtain ⟨P0,hP⟩:∃ v,pa=v:=⟨_,rfl⟩
  obtain ⟨Q0,hQ⟩:∃ v,pa=v:=⟨_,rfl⟩
  have KP:=Lib.hid hP
  have KQ:=Lib.hid hQ
  clear hP hQ
  have hl:NumV wc (.agg #[.int .i64 pa.1,.bool ab,.bool an,.slice ao ak ac,.int .i64 af]) P0.1 P0.2:=by rw [←KP.out];exact hl
  have hm:NumV wc (.agg #[.int .i64 pa.1,.bool ab,.bool an,.slice ao ak ac,.int .i64 af]) Q0.1 Q0.2:=by rw [←KQ.out];exact hm
  obtain ⟨l,m,hbl,hl,hbm,hm⟩:∃ l m,NBv wc g l∧NumV wc l P0.1 P0.2∧NBv wc h m∧NumV wc m Q0.1 Q0.2:=⟨_,_,hbl,hl,hbm,hm⟩
  obtain ⟨z,hz⟩:∃ z,lessN pb.1 pb.2 P0.1 P0.2=z:=⟨_,rfl⟩
  have HZ:=Lib.hid hz
  clear hz
  obtain ⟨li,lb,ln,lo,lk,lc,lf,rfl,hbl⟩:=hbl
  obtain ⟨mi,mb,mn,mo,mk,mc,mf,rfl,hbm⟩:=hbm
  obtain ⟨⟨a0,a1,a2,a3,a4⟩,⟨b0,b1,b2,b3,b4⟩,⟨c0,c1,c2,c3,c4⟩,d0,d1,d2,d3,d4⟩:=HC.out _ st
  have l0:=hbl.c0
  have l1:=hbl.c1
  have l2:=hbl.c2
  have l3:=hbl.c3
  have l4:=hbl.c4
  go_upto_if 16 with (go_at_call 94;(refine (refLess_any _ _ _ _ _ _ z HZ.out _ (Hb.out _ st) hl (HTV.out _ st)).mono ?_);rintro r wn ⟨rfl,hE⟩;have st:Ext V wn:=Ext.trans st hE;have hbl:=hbl.ext hE;have hl:=hl.ext hE;have hbm:=hbm.ext hE;have hm:=hm.ext hE)
  clear a0 a1 a2 a3 a4 b0 b1 b2 b3 b4 c0 c1 c2 c3 c4 d0 d1 d2 d3 d4
  clear l0 l1 l2 l3 l4
  clear hE
  go_cut [] from 12 (fun wx=>(∃ l m,NBv wx g l∧NumV wx l (lowN P0 pb).1 (lowN P0 pb).2∧NBv wx h m∧NumV wx m (Q0).1 (Q0).2∧Ext V wx))
  case first =>
    cases z with
    | true =>
      obtain ⟨⟨a0,a1,a2,a3,a4⟩,⟨b0,b1,b2,b3,b4⟩,⟨c0,c1,c2,c3,c4⟩,d0,d1,d2,d3,d4⟩:=HC.out _ st
      have l0:=hbl.c0
      have l1:=hbl.c1
      have l2:=hbl.c2
      have l3:=hbl.c3
      have l4:=hbl.c4
      have f0:=hbl.f 0
      have f1:=hbl.f 1
      have f2:=hbl.f 2
      have f3:=hbl.f 3
      have f4:=hbl.f 4
      go_wp2
      go_meet
      have ho:=only_set5 wn g (.int .i64 pb.1) (.bool bb) (.bool bn) (.slice bo bk bc) (.int .i64 bf)
      have hst:=hbl.stored pb.1 bb bn bo bk bc bf
      have hnum:=(Hb.out _ st).only_nba ⟨_,_,_,_,_,_,_,hbl⟩ ho
      have hoth:=hm.only_nba ⟨_,_,_,_,_,_,_,hbl⟩ ho
      have hbo:=hbm.only ho (Ne.symm hgh)
      have hEE:Ext V _:=Below.trans st (ho.below hVg)
      have hnew:lowN P0 pb=pb:=by unfold lowN;rw [HZ.out];rfl
      rw [hnew]
      exact ⟨_,_,⟨_,_,_,_,_,_,_,rfl,hst⟩,hnum,⟨_,_,_,_,_,_,_,rfl,hbo⟩,hoth,hEE⟩
    | false =>
      go_wp2
      go_meet
      have hnew:lowN P0 pb=P0:=by unfold lowN;rw [HZ.out];rfl
      rw [hnew]
      exact ⟨_,_,⟨_,_,_,_,_,_,_,rfl,hbl⟩,hl,⟨_,_,_,_,_,_,_,rfl,hbm⟩,hm,st⟩
  case rest =>
  clear hbl hl hbm hm st HZ
  obtain ⟨l,m,hbl,hl,hbm,hm,st⟩:=hcut
  obtain ⟨P1,hX⟩:∃ v,lowN P0 pb=v:=⟨_,rfl⟩
  rw [hX] at hl
  have K0:=Lib.hid hX
  clear hX
  obtain ⟨z,hz⟩:∃ z,lessN pc.1 pc.2 P1.1 P1.2=z:=⟨_,rfl⟩
  have HZ:=Lib.hid hz
  clear hz
  obtain ⟨li,lb,ln,lo,lk,lc,lf,rfl,hbl⟩:=hbl
  obtain ⟨mi,mb,mn,mo,mk,mc,mf,rfl,hbm⟩:=hbm
  obtain ⟨⟨a0,a1,a2,a3,a4⟩,⟨b0,b1,b2,b3,b4⟩,⟨c0,c1,c2,c3,c4⟩,d0,d1,d2,d3,d4⟩:=HC.out _ st
  have l0:=hbl.c0
  have l1:=hbl.c1
  have l2:=hbl.c2
  have l3:=hbl.c3
  have l4:=hbl.c4
  go_upto_if 20 with (go_at_call 94;(refine (refLess_any _ _ _ _ _ _ z HZ.out _ (Hc.out _ st) hl (HTV.out _ st)).mono ?_);rintro r wn ⟨rfl,hE⟩;have st:Ext V wn:=Ext.trans st hE;have hbl:=hbl.ext hE;have hl:=hl.ext hE;have hbm:=hbm.ext hE;have hm:=hm.ext hE)
  clear a0 a1 a2 a3 a4 b0 b1 b2 b3 b4 c0 c1 c2 c3 c4 d0 d1 d2 d3 d4
  clear l0 l1 l2 l3 l4
  clear hE
  go_cut [] from 12 (fun wx=>(∃ l m,NBv wx g l∧NumV wx l (lowN P1 pc).1 (lowN P1 pc).2∧NBv wx h m∧NumV wx m (Q0).1 (Q0).2∧Ext V wx))
  case first =>
    cases z with
    | true =>
      obtain ⟨⟨a0,a1,a2,a3,a4⟩,⟨b0,b1,b2,b3,b4⟩,⟨c0,c1,c2,c3,c4⟩,d0,d1,d2,d3,d4⟩:=HC.out _ st
      have l0:=hbl.c0
      have l1:=hbl.c1
      have l2:=hbl.c2
      have l3:=hbl.c3
      have l4:=hbl.c4
      have f0:=hbl.f 0
      have f1:=hbl.f 1
      have f2:=hbl.f 2
      have f3:=hbl.f 3
      have f4:=hbl.f 4
      go_wp2
      go_meet
      have ho:=only_set5 wn g (.int .i64 pc.1) (.bool cb) (.bool cn) (.slice co ck cc) (.int .i64 cf)
      have hst:=hbl.stored pc.1 cb cn co ck cc cf
      have hnum:=(Hc.out _ st).only_nba ⟨_,_,_,_,_,_,_,hbl⟩ ho
      have hoth:=hm.only_nba ⟨_,_,_,_,_,_,_,hbl⟩ ho
      have hbo:=hbm.only ho (Ne.symm hgh)
      have hEE:Ext V _:=Below.trans st (ho.below hVg)
      have hnew:lowN P1 pc=pc:=by unfold lowN;rw [HZ.out];rfl
      rw [hnew]
      exact ⟨_,_,⟨_,_,_,_,_,_,_,rfl,hst⟩,hnum,⟨_,_,_,_,_,_,_,rfl,hbo⟩,hoth,hEE⟩
    | false =>
      go_wp2
      go_meet
      have hnew:lowN P1 pc=P1:=by unfold lowN;rw [HZ.out];rfl
      rw [hnew]
      exact ⟨_,_,⟨_,_,_,_,_,_,_,rfl,hbl⟩,hl,⟨_,_,_,_,_,_,_,rfl,hbm⟩,hm,st⟩
  case rest =>
  clear hbl hl hbm hm st HZ
  obtain ⟨l,m,hbl,hl,hbm,hm,st⟩:=hcut
  obtain ⟨P2,hX⟩:∃ v,lowN P1 pc=v:=⟨_,rfl⟩
  rw [hX] at hl
  have K1:=Lib.hid hX
  clear hX
  obtain ⟨z,hz⟩:∃ z,lessN pd.1 pd.2 P2.1 P2.2=z:=⟨_,rfl⟩
  have HZ:=Lib.hid hz
  clear hz
  obtain ⟨li,lb,ln,lo,lk,lc,lf,rfl,hbl⟩:=hbl
  obtain ⟨mi,mb,mn,mo,mk,mc,mf,rfl,hbm⟩:=hbm
  obtain ⟨⟨a0,a1,a2,a3,a4⟩,⟨b0,b1,b2,b3,b4⟩,⟨c0,c1,c2,c3,c4⟩,d0,d1,d2,d3,d4⟩:=HC.out _ st
  have l0:=hbl.c0
  have l1:=hbl.c1
  have l2:=hbl.c2
  have l3:=hbl.c3
  have l4:=hbl.c4
  go_upto_if 24 with (go_at_call 94;(refine (refLess_any _ _ _ _ _ _ z HZ.out _ (Hd.out _ st) hl (HTV.out _ st)).mono ?_);rintro r wn ⟨rfl,hE⟩;have st:Ext V wn:=Ext.trans st hE;have hbl:=hbl.ext hE;have hl:=hl.ext hE;have hbm:=hbm.ext hE;have hm:=hm.ext hE)
  clear a0 a1 a2 a3 a4 b0 b1 b2 b3 b4 c0 c1 c2 c3 c4 d0 d1 d2 d3 d4
  clear l0 l1 l2 l3 l4
  clear hE
  go_cut [] from 12 (fun wx=>(∃ l m,NBv wx g l∧NumV wx l (lowN P2 pd).1 (lowN P2 pd).2∧NBv wx h m∧NumV wx m (Q0).1 (Q0).2∧Ext V wx))
  case first =>
    cases z with
    | true =>
      obtain ⟨⟨a0,a1,a2,a3,a4⟩,⟨b0,b1,b2,b3,b4⟩,⟨c0,c1,c2,c3,c4⟩,d0,d1,d2,d3,d4⟩:=HC.out _ st
      have l0:=hbl.c0
      have l1:=hbl.c1
      have l2:=hbl.c2
      have l3:=hbl.c3
      have l4:=hbl.c4
      have f0:=hbl.f 0
      have f1:=hbl.f 1
      have f2:=hbl.f 2
      have f3:=hbl.f 3
      have f4:=hbl.f 4
      go_wp2
      go_meet
      have ho:=only_set5 wn g (.int .i64 pd.1) (.bool db) (.bool dn) (.slice do' dk dc) (.int .i64 df)
      have hst:=hbl.stored pd.1 db dn do' dk dc df
      have hnum:=(Hd.out _ st).only_nba ⟨_,_,_,_,_,_,_,hbl⟩ ho
      have hoth:=hm.only_nba ⟨_,_,_,_,_,_,_,hbl⟩ ho
      have hbo:=hbm.only ho (Ne.symm hgh)
      have hEE:Ext V _:=Below.trans st (ho.below hVg)
      have hnew:lowN P2 pd=pd:=by unfold lowN;rw [HZ.out];rfl
      rw [hnew]
      exact ⟨_,_,⟨_,_,_,_,_,_,_,rfl,hst⟩,hnum,⟨_,_,_,_,_,_,_,rfl,hbo⟩,hoth,hEE⟩
    | false =>
      go_wp2
      go_meet
      have hnew:lowN P2 pd=P2:=by unfold lowN;rw [HZ.out];rfl
      rw [hnew]
      exact ⟨_,_,⟨_,_,_,_,_,_,_,rfl,hbl⟩,hl,⟨_,_,_,_,_,_,_,rfl,hbm⟩,hm,st⟩
  case rest =>
  clear hbl hl hbm hm st HZ
  obtain ⟨l,m,hbl,hl,hbm,hm,st⟩:=hcut
  obtain ⟨P3,hX⟩:∃ v,lowN P2 pd=v:=⟨_,rfl⟩
  rw [hX] at hl
  have K2:=Lib.hid hX
  clear hX
  obtain ⟨z,hz⟩:∃ z,lessN Q0.1 Q0.2 pb.1 pb.2=z:=⟨_,rfl⟩
  have HZ:=Lib.hid hz
  clear hz
  obtain ⟨li,lb,ln,lo,lk,lc,lf,rfl,hbl⟩:=hbl
  obtain ⟨mi,mb,mn,mo,mk,mc,mf,rfl,hbm⟩:=hbm
  obtain ⟨⟨a0,a1,a2,a3,a4⟩,⟨b0,b1,b2,b3,b4⟩,⟨c0,c1,c2,c3,c4⟩,d0,d1,d2,d3,d4⟩:=HC.out _ st
  have m0:=hbm.c0
  have m1:=hbm.c1
  have m2:=hbm.c2
  have m3:=hbm.c3
  have m4:=hbm.c4
  go_upto_if 28 with (go_at_call 94;(refine (refLess_any _ _ _ _ _ _ z HZ.out _ hm (Hb.out _ st) (HTV.out _ st)).mono ?_);rintro r wn ⟨rfl,hE⟩;have st:Ext V wn:=Ext.trans st hE;have hbl:=hbl.ext hE;have hl:=hl.ext hE;have hbm:=hbm.ext hE;have hm:=hm.ext hE)
  clear a0 a1 a2 a3 a4 b0 b1 b2 b3 b4 c0 c1 c2 c3 c4 d0 d1 d2 d3 d4
  clear m0 m1 m2 m3 m4
  clear hE
  go_cut [] from 12 (fun wx=>(∃ l m,NBv wx g l∧NumV wx l (P3).1 (P3).2∧NBv wx h m∧NumV wx m (highN Q0 pb).1 (highN Q0 pb).2∧Ext V wx))
  case first =>
    cases z with
    | true =>
      obtain ⟨⟨a0,a1,a2,a3,a4⟩,⟨b0,b1,b2,b3,b4⟩,⟨c0,c1,c2,c3,c4⟩,d0,d1,d2,d3,d4⟩:=HC.out _ st
      have m0:=hbm.c0
      have m1:=hbm.c1
      have m2:=hbm.c2
      have m3:=hbm.c3
      have m4:=hbm.c4
      have f0:=hbm.f 0
      have f1:=hbm.f 1
      have f2:=hbm.f 2
      have f3:=hbm.f 3
      have f4:=hbm.f 4
      go_wp2
      go_meet
      have ho:=only_set5 wn h (.int .i64 pb.1) (.bool bb) (.bool bn) (.slice bo bk bc) (.int .i64 bf)
      have hst:=hbm.stored pb.1 bb bn bo bk bc bf
      have hnum:=(Hb.out _ st).only_nba ⟨_,_,_,_,_,_,_,hbm⟩ ho
      have hoth:=hl.only_nba ⟨_,_,_,_,_,_,_,hbm⟩ ho
      have hbo:=hbl.only ho hgh
      have hEE:Ext V _:=Below.trans st (ho.below hVh)
      have hnew:highN Q0 pb=pb:=by unfold highN;rw [HZ.out];rfl
      rw [hnew]
      exact ⟨_,_,⟨_,_,_,_,_,_,_,rfl,hbo⟩,hoth,⟨_,_,_,_,_,_,_,rfl,hst⟩,hnum,hEE⟩
    | false =>
      go_wp2
      go_meet
      have hnew:highN Q0 pb=Q0:=by unfold highN;rw [HZ.out];rfl
      rw [hnew]
      exact ⟨_,_,⟨_,_,_,_,_,_,_,rfl,hbl⟩,hl,⟨_,_,_,_,_,_,_,rfl,hbm⟩,hm,st⟩
  case rest =>
  clear hbl hl hbm hm st HZ
  obtain ⟨l,m,hbl,hl,hbm,hm,st⟩:=hcut
  obtain ⟨Q4,hX⟩:∃ v,highN Q0 pb=v:=⟨_,rfl⟩
  rw [hX] at hm
  have K3:=Lib.hid hX
  clear hX
  obtain ⟨z,hz⟩:∃ z,lessN Q4.1 Q4.2 pc.1 pc.2=z:=⟨_,rfl⟩
  have HZ:=Lib.hid hz
  clear hz
  obtain ⟨li,lb,ln,lo,lk,lc,lf,rfl,hbl⟩:=hbl
  obtain ⟨mi,mb,mn,mo,mk,mc,mf,rfl,hbm⟩:=hbm
  obtain ⟨⟨a0,a1,a2,a3,a4⟩,⟨b0,b1,b2,b3,b4⟩,⟨c0,c1,c2,c3,c4⟩,d0,d1,d2,d3,d4⟩:=HC.out _ st
  have m0:=hbm.c0
  have m1:=hbm.c1
  have m2:=hbm.c2
  have m3:=hbm.c3
  have m4:=hbm.c4
  go_upto_if 32 with (go_at_call 94;(refine (refLess_any _ _ _ _ _ _ z HZ.out _ hm (Hc.out _ st) (HTV.out _ st)).mono ?_);rintro r wn ⟨rfl,hE⟩;have st:Ext V wn:=Ext.trans st hE;have hbl:=hbl.ext hE;have hl:=hl.ext hE;have hbm:=hbm.ext hE;have hm:=hm.ext hE)
  clear a0 a1 a2 a3 a4 b0 b1 b2 b3 b4 c0 c1 c2 c3 c4 d0 d1 d2 d3 d4
  clear m0 m1 m2 m3 m4
  clear hE
  go_cut [] from 12 (fun wx=>(∃ l m,NBv wx g l∧NumV wx l (P3).1 (P3).2∧NBv wx h m∧NumV wx m (highN Q4 pc).1 (highN Q4 pc).2∧Ext V wx))
  case first =>
    cases z with
    | true =>
      obtain ⟨⟨a0,a1,a2,a3,a4⟩,⟨b0,b1,b2,b3,b4⟩,⟨c0,c1,c2,c3,c4⟩,d0,d1,d2,d3,d4⟩:=HC.out _ st
      have m0:=hbm.c0
      have m1:=hbm.c1
      have m2:=hbm.c2
      have m3:=hbm.c3
      have m4:=hbm.c4
      have f0:=hbm.f 0
      have f1:=hbm.f 1
      have f2:=hbm.f 2
      have f3:=hbm.f 3
      have f4:=hbm.f 4
      go_wp2
      go_meet
      have ho:=only_set5 wn h (.int .i64 pc.1) (.bool cb) (.bool cn) (.slice co ck cc) (.int .i64 cf)
      have hst:=hbm.stored pc.1 cb cn co ck cc cf
      have hnum:=(Hc.out _ st).only_nba ⟨_,_,_,_,_,_,_,hbm⟩ ho
      have hoth:=hl.only_nba ⟨_,_,_,_,_,_,_,hbm⟩ ho
      have hbo:=hbl.only ho hgh
      have hEE:Ext V _:=Below.trans st (ho.below hVh)
      have hnew:highN Q4 pc=pc:=by unfold highN;rw [HZ.out];rfl
      rw [hnew]
      exact ⟨_,_,⟨_,_,_,_,_,_,_,rfl,hbo⟩,hoth,⟨_,_,_,_,_,_,_,rfl,hst⟩,hnum,hEE⟩
    | false =>
      go_wp2
      go_meet
      have hnew:highN Q4 pc=Q4:=by unfold highN;rw [HZ.out];rfl
      rw [hnew]
      exact ⟨_,_,⟨_,_,_,_,_,_,_,rfl,hbl⟩,hl,⟨_,_,_,_,_,_,_,rfl,hbm⟩,hm,st⟩
  case rest =>
  clear hbl hl hbm hm st HZ
  obtain ⟨l,m,hbl,hl,hbm,hm,st⟩:=hcut
  obtain ⟨Q5,hX⟩:∃ v,highN Q4 pc=v:=⟨_,rfl⟩
  rw [hX] at hm
  have K4:=Lib.hid hX
  clear hX
  obtain ⟨z,hz⟩:∃ z,lessN Q5.1 Q5.2 pd.1 pd.2=z:=⟨_,rfl⟩
  have HZ:=Lib.hid hz
  clear hz
  obtain ⟨li,lb,ln,lo,lk,lc,lf,rfl,hbl⟩:=hbl
  obtain ⟨mi,mb,mn,mo,mk,mc,mf,rfl,hbm⟩:=hbm
  obtain ⟨⟨a0,a1,a2,a3,a4⟩,⟨b0,b1,b2,b3,b4⟩,⟨c0,c1,c2,c3,c4⟩,d0,d1,d2,d3,d4⟩:=HC.out _ st
  have m0:=hbm.c0
  have m1:=hbm.c1
  have m2:=hbm.c2
  have m3:=hbm.c3
  have m4:=hbm.c4
  go_upto_if 36 with (go_at_call 94;(refine (refLess_any _ _ _ _ _ _ z HZ.out _ hm (Hd.out _ st) (HTV.out _ st)).mono ?_);rintro r wn ⟨rfl,hE⟩;have st:Ext V wn:=Ext.trans st hE;have hbl:=hbl.ext hE;have hl:=hl.ext hE;have hbm:=hbm.ext hE;have hm:=hm.ext hE)
  clear a0 a1 a2 a3 a4 b0 b1 b2 b3 b4 c0 c1 c2 c3 c4 d0 d1 d2 d3 d4
  clear m0 m1 m2 m3 m4
  clear hE
  go_cut [] from 12 (fun wx=>(∃ l m,NBv wx g l∧NumV wx l (P3).1 (P3).2∧NBv wx h m∧NumV wx m (highN Q5 pd).1 (highN Q5 pd).2∧Ext V wx))
  case first =>
    cases z with
    | true =>
      obtain ⟨⟨a0,a1,a2,a3,a4⟩,⟨b0,b1,b2,b3,b4⟩,⟨c0,c1,c2,c3,c4⟩,d0,d1,d2,d3,d4⟩:=HC.out _ st
      have m0:=hbm.c0
      have m1:=hbm.c1
      have m2:=hbm.c2
      have m3:=hbm.c3
      have m4:=hbm.c4
      have f0:=hbm.f 0
      have f1:=hbm.f 1
      have f2:=hbm.f 2
      have f3:=hbm.f 3
      have f4:=hbm.f 4
      go_wp2
      go_meet
      have ho:=only_set5 wn h (.int .i64 pd.1) (.bool db) (.bool dn) (.slice do' dk dc) (.int .i64 df)
      have hst:=hbm.stored pd.1 db dn do' dk dc df
      have hnum:=(Hd.out _ st).only_nba ⟨_,_,_,_,_,_,_,hbm⟩ ho
      have hoth:=hl.only_nba ⟨_,_,_,_,_,_,_,hbm⟩ ho
      have hbo:=hbl.only ho hgh
      have hEE:Ext V _:=Below.trans st (ho.below hVh)
      have hnew:highN Q5 pd=pd:=by unfold highN;rw [HZ.out];rfl
      rw [hnew]
      exact ⟨_,_,⟨_,_,_,_,_,_,_,rfl,hbo⟩,hoth,⟨_,_,_,_,_,_,_,rfl,hst⟩,hnum,hEE⟩
    | false =>
      go_wp2
      go_meet
      have hnew:highN Q5 pd=Q5:=by unfold highN;rw [HZ.out];rfl
      rw [hnew]
      exact ⟨_,_,⟨_,_,_,_,_,_,_,rfl,hbl⟩,hl,⟨_,_,_,_,_,_,_,rfl,hbm⟩,hm,st⟩
  case rest =>
  clear hbl hl hbm hm st HZ
  obtain ⟨l,m,hbl,hl,hbm,hm,st⟩:=hcut
  obtain ⟨Q6,hX⟩:∃ v,highN Q5 pd=v:=⟨_,rfl⟩
  rw [hX] at hm
  have K5:=Lib.hid hX
  clear hX
  obtain ⟨li,lb,ln,lo,lk,lc,lf,rfl,hbl⟩:=hbl
  obtain ⟨mi,mb,mn,mo,mk,mc,mf,rfl,hbm⟩:=hbm
  go_upto_region 14 with fail
  rename_i K HK
  have bz:=HZ1.out _ st
  have by':=HZ2.out _ st
  have q1:=bz.lt
  have q2:=by'.lt
  have hs:=HSZ.out
  have hBB:Below B w wc:=by rw [←HBe.out];exact Ext.trans HB.out st
  refine refSpan_r14 (fun a' wx hR=>HK _ _ ?_) hbl hbm ⟨_,_,_,_,_,_,_,bz⟩ ⟨_,_,_,_,_,_,_,by'⟩ (by omega) (by omega) (by omega) (by omega) (by omega) (by omega) (by omega) hl hm hBB
  clear hl hm bz by' st hbl hbm hVg hVh hgh q1 q2 hs hBB
  obtain ⟨u38,u39,x1,x2,nl,nm,hE,rfl⟩:=hR
  have x10:=x1.c0
  have x11:=x1.c1
  have x12:=x1.c2
  have x13:=x1.c3
  have x14:=x1.c4
  have x20:=x2.c0
  have x21:=x2.c1
  have x22:=x2.c2
  have x23:=x2.c3
  have x24:=x2.c4
  have hRLe:P3=RL:=by rw [←HRL.out,KP.out,K0.out,K1.out,K2.out]
  have hRHe:Q6=RH:=by rw [←HRH.out,KQ.out,K3.out,K4.out,K5.out]
  rw [hRLe] at nl
  rw [hRHe] at nm
  have NL:=Lib.hid nl
  have NM:=Lib.hid nm
  have HE:=Lib.hid hE
  clear nl nm hE hRLe hRHe x1 x2
  go_wp2
  refine bodyPost_ret (v:=.tuple #[.agg #[.int .i64 li,.bool lb,.bool ln,.slice lo lk lc,.int .i64 lf],.agg #[.int .i64 mi,.bool mb,.bool mn,.slice mo mk mc,.int .i64 mf]]) (by simp [results,Tryz.results51,go_sem,x10,x11,x12,x13,x14,x20,x21,x22,x23,x24]) rfl ⟨_,_,rfl,NL.out,NM.out,?_⟩
  show Below _ _ _
  rw [HBe.out]
  exact HE.out
end Go.Proofs.YtkomhemjodbkpaaGreatDoor
