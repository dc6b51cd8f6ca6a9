import Derived.Test.YtkomhemjodbkpaaGreatDoorIExLawU41
import Derived.Test.YtkomhemjodbkpaaGreatDoorIExLawU28
import Derived.Test.YtkomhemjodbkpaaGreatDoorIExLawU29
import Derived.Test.YtkomhemjodbkpaaGreatDoorIExLawU43
import Derived.Test.YtkomhemjodbkpaaGreatDoorIExLawU34
namespace Go.Proofs.YtkomhemjodbkpaaGreatDoor
open Go Go.RowKit
theorem IBox.stored0 {w:World} {g:Nat} {lo hi:Int} (h:IBox w g lo hi) (lo':Int):IBox (w.setCell ⟨g,0,none⟩ (.int .u64 lo')) g lo' hi:=by
  unfold IBox at h ⊢
  simp [World.setCell,Array.getElem?_modify,h]
theorem IBox.stored1 {w:World} {g:Nat} {lo hi:Int} (h:IBox w g lo hi) (hi':Int):IBox (w.setCell ⟨g,1,none⟩ (.int .u64 hi')) g lo hi':=by
  unfold IBox at h ⊢
  simp [World.setCell,Array.getElem?_modify,h]
set_option maxRecDepth 100000 in
set_option maxHeartbeats 16000000 in
theorem refISqrt_neg (a b:Nat) (g:Good a b) (h:sgN (numI b) (numD b)<0) (w:World) (hT:Table w) :
    Calls Tryz.prog 22 #[.agg #[.int .u64 (a:Int),.int .u64 (b:Int)]] w fun e w'=>e=.returned (.agg #[.int .u64 18442240474082181120,.int .u64 9218868437227405312])∧Ext w w':=by
  have C1:=Lib.hid (fun w=>refValid_any a b g.l1 g.l2 true g.valid w)
  have NB:=Lib.hid (fun w hT=>refNumOf_any b g.l2 _ _ rfl rfl w hT)
  obtain ⟨sb,hsb⟩:∃ s,sgN (numI b) (numD b)=s:=⟨_,rfl⟩
  have SB:=Lib.hid (fun v w hv hT=>refSgN_any v (numI b) (numD b) sb hsb w hv hT)
  rw [hsb] at h
  have HT:=Lib.hid hT
  clear hsb g hT
  go_enter Tryz.func22,Tryz.ntmps22
  go_wp2_with fail
  obtain ⟨W,hW,hB,hx,hbx,hsz⟩:=ibox_two w a b 0 0
  rw [←hW]
  clear hW
  generalize hBe:w.heap.size=B at *
  have HBe:=Lib.hid hBe
  have HB:Hid (Below B w W):=Lib.hid (by rw [←hBe];exact hB)
  clear hBe hB hsz
  have c0:=hx.c0
  have c1:=hx.c1
  go_wp2_with fail
  refine (C1.out _).mono ?_
  rintro r V ⟨rfl,hE⟩
  have HB:=Lib.hid (HB.out.trans (Below.mono hE (Nat.le_of_lt hx.lt)))
  have hx:=hx.below hE
  have hbx:=hbx.below hE
  have hBs:=hbx.lt
  clear c0 c1 hE
  have HC:=Lib.hid (show ∀ wx,Ext V wx→(wx.cell? ⟨B,0,none⟩=some (.int .u64 (a:Int))∧wx.cell? ⟨B,1,none⟩=some (.int .u64 (b:Int)))∧IBox wx (B+1) 0 0 from fun wx h=>⟨⟨(hx.below h).c0,(hx.below h).c1⟩,hbx.below h⟩)
  have HTV:=Lib.hid (show ∀ wx,Ext V wx→Table wx from fun wx h=>(HT.out.below (Below.mono HB.out (Nat.le_of_eq HBe.out))).below h)
  clear hx hbx
  obtain ⟨⟨c0,c1⟩,bz⟩:=HC.out V (Ext.refl _)
  clear bz
  go_wp2_with fail
  refine (NB.out _ (HTV.out _ (Ext.refl _))).mono ?_
  rintro r w1 ⟨vb,rfl,nb,st⟩
  have st:Ext V w1:=st
  clear c0 c1
  obtain ⟨⟨c0,c1⟩,bz⟩:=HC.out w1 st
  clear bz
  go_wp2_with fail
  refine (SB.out _ _ nb (HTV.out _ st)).mono ?_
  rintro r w2 ⟨rfl,hE⟩
  have st:Ext V w2:=Ext.trans st hE
  clear nb hE c0 c1
  have hs2:decide (sb<0)=true:=decide_eq_true h
  obtain ⟨⟨c0,c1⟩,bz⟩:=HC.out w2 st
  clear bz
  go_wp2_with fail
  refine (refAll_any _).mono ?_
  rintro r w9 ⟨rfl,hE⟩
  have st:Ext V w9:=Ext.trans st hE
  clear c0 c1 hE
  obtain ⟨-,bz⟩:=HC.out w9 st
  have hst:=bz.stored 18442240474082181120 9218868437227405312
  have q0:=hst.c0
  have q1:=hst.c1
  have z0:=bz.c0
  have z1:=bz.c1
  have z2:=bz.f 0
  have z3:=bz.f 1
  have HF:=Lib.hid ((HB.out.trans (Below.mono st (by omega))).trans ((only_iset2 _ (B+1) (.int .u64 18442240474082181120) (.int .u64 9218868437227405312)).below (by omega)))
  clear hst
  go_wp2
  refine bodyPost_ret (v:=.agg #[.int .u64 18442240474082181120,.int .u64 9218868437227405312]) (by simp [results,Tryz.results22,go_sem,q0,q1]) rfl ⟨rfl,?_⟩
  show Below _ _ _
  rw [HBe.out]
  exact HF.out
set_option maxRecDepth 100000 in
set_option maxHeartbeats 16000000 in
theorem refISqrt_yes (a b:Nat) (g:Good a b) (h:¬ sgN (numI b) (numD b)<0) (x y:Int) (hx:(if 0<sgN (numI a) (numD a) then ((fsqrtF a 1:Nat):Int) else 0)=x) (hy:(if b=9218868437227405312 then (b:Int) else ((plainF (fsqrtF b 2):Nat):Int))=y) (w:World) (hT:Table w) :
    Calls Tryz.prog 22 #[.agg #[.int .u64 (a:Int),.int .u64 (b:Int)]] w fun e w'=>e=.returned (.agg #[.int .u64 x,.int .u64 y])∧Ext w w':=by
  have C1:=Lib.hid (fun w=>refValid_any a b g.l1 g.l2 true g.valid w)
  have NA:=Lib.hid (fun w hT=>refNumOf_any a g.l1 _ _ rfl rfl w hT)
  have NB:=Lib.hid (fun w hT=>refNumOf_any b g.l2 _ _ rfl rfl w hT)
  have Q1:=Lib.hid (fun w hT=>refFSqrt_any a 1 g.l1 w hT)
  have Q2:=Lib.hid (fun w hT=>refFSqrt_any b 2 g.l2 w hT)
  obtain ⟨sa,hsa⟩:∃ s,sgN (numI a) (numD a)=s:=⟨_,rfl⟩
  obtain ⟨sb,hsb⟩:∃ s,sgN (numI b) (numD b)=s:=⟨_,rfl⟩
  have SA:=Lib.hid (fun v w hv hT=>refSgN_any v (numI a) (numD a) sa hsa w hv hT)
  have SB:=Lib.hid (fun v w hv hT=>refSgN_any v (numI b) (numD b) sb hsb w hv hT)
  rw [hsb] at h
  rw [hsa] at hx
  have HX:=Lib.hid hx
  have HY:=Lib.hid hy
  have HT:=Lib.hid hT
  clear hsa hsb g hT hx hy
  go_enter Tryz.func22,Tryz.ntmps22
  go_wp2_with fail
  obtain ⟨W,hW,hB,hx,hbx,hsz⟩:=ibox_two w a b 0 0
  rw [←hW]
  clear hW
  generalize hBe:w.heap.size=B at *
  have HBe:=Lib.hid hBe
  have HB:Hid (Below B w W):=Lib.hid (by rw [←hBe];exact hB)
  clear hBe hB hsz
  have c0:=hx.c0
  have c1:=hx.c1
  go_wp2_with fail
  refine (C1.out _).mono ?_
  rintro r V ⟨rfl,hE⟩
  have HB:=Lib.hid (HB.out.trans (Below.mono hE (Nat.le_of_lt hx.lt)))
  have hx:=hx.below hE
  have hbx:=hbx.below hE
  have hBs:=hbx.lt
  clear c0 c1 hE
  have HC:=Lib.hid (show ∀ wx,Ext V wx→(wx.cell? ⟨B,0,none⟩=some (.int .u64 (a:Int))∧wx.cell? ⟨B,1,none⟩=some (.int .u64 (b:Int)))∧IBox wx (B+1) 0 0 from fun wx h=>⟨⟨(hx.below h).c0,(hx.below h).c1⟩,hbx.below h⟩)
  have HTV:=Lib.hid (show ∀ wx,Ext V wx→Table wx from fun wx h=>(HT.out.below (Below.mono HB.out (Nat.le_of_eq HBe.out))).below h)
  clear hx hbx
  obtain ⟨⟨c0,c1⟩,bz⟩:=HC.out V (Ext.refl _)
  clear bz
  go_wp2_with fail
  refine (NB.out _ (HTV.out _ (Ext.refl _))).mono ?_
  rintro r w1 ⟨vb,rfl,nb,st⟩
  have st:Ext V w1:=st
  clear c0 c1
  obtain ⟨⟨c0,c1⟩,bz⟩:=HC.out w1 st
  clear bz
  go_wp2_with fail
  refine (SB.out _ _ nb (HTV.out _ st)).mono ?_
  rintro r w2 ⟨rfl,hE⟩
  have st:Ext V w2:=Ext.trans st hE
  clear nb hE c0 c1
  have hs2:decide (sb<0)=false:=decide_eq_false (by omega)
  obtain ⟨⟨c0,c1⟩,bz⟩:=HC.out w2 st
  clear bz
  go_upto_region 4 with fail
  have hBD:B+1<w2.heap.size:=by have:=Below.size st;omega
  have hVD:V.heap.size≤w2.heap.size:=Below.size st
  obtain ⟨U,hU,eU,bd,su⟩:=ibox_new w2 0 0
  rw [←hU]
  clear hU
  have st:Ext V U:=Ext.trans st eU
  clear eU su
  generalize w2.heap.size=D at *
  clear c0 c1
  have bd:=Lib.hid bd
  obtain ⟨⟨c0,c1⟩,bz⟩:=HC.out U st
  clear bz
  go_upto_if 20 with (first | (go_at_call 48;(refine (NA.out _ (HTV.out _ st)).mono ?_);rintro r U1 ⟨va,rfl,na,hE⟩;have bd:=Lib.hid (bd.out.below hE);have st:Ext V U1:=Ext.trans st hE;clear hE c0 c1;obtain ⟨⟨c0,c1⟩,bz⟩:=HC.out U1 st;clear bz) | (go_at_call 55;(refine (SA.out _ _ na (HTV.out _ st)).mono ?_);rintro r U2 ⟨rfl,hE⟩;have bd:=Lib.hid (bd.out.below hE);have st:Ext V U2:=Ext.trans st hE;clear hE c0 c1 na;obtain ⟨⟨c0,c1⟩,bz⟩:=HC.out U2 st;clear bz))
  go_cut [] from 20 (fun wx=>IBox wx D x 0∧Ext V wx)
  case first =>
    by_cases ha:0<sa
    · have hs3:decide (0<sa)=true:=decide_eq_true ha
      obtain rfl:((fsqrtF a 1:Nat):Int)=x:=by rw [←HX.out,if_pos ha]
      go_wp2_with fail
      refine (Q1.out _ (HTV.out _ st)).mono ?_
      rintro r U3 ⟨rfl,hE⟩
      have bd:=bd.out.below hE
      have st:Ext V U3:=Ext.trans st hE
      clear hE c0 c1
      have z0:=bd.c0
      have z1:=bd.c1
      have z2:=bd.f 0
      have z3:=bd.f 1
      go_wp2
      go_meet
      exact ⟨bd.stored0 _,Below.trans st ((only_set1 _ _ _ _).below hVD)⟩
    · have hs3:decide (0<sa)=false:=decide_eq_false ha
      obtain rfl:0=x:=by rw [←HX.out,if_neg ha]
      go_wp2
      go_meet
      exact ⟨bd.out,st⟩
  case rest =>
  clear bd st c0 c1
  obtain ⟨bd,st⟩:=hcut
  have bd:=Lib.hid bd
  obtain ⟨⟨c0,c1⟩,bz⟩:=HC.out _ st
  clear bz
  have BI:((b:Int) == 9218868437227405312)=decide (b=9218868437227405312):=by
    by_cases h:b=9218868437227405312
    · rw [decide_eq_true h,h];rfl
    · rw [decide_eq_false h,beq_eq_false_iff_ne];omega
  go_upto_if 27 with fail
  go_cut [] from 27 (fun wx=>IBox wx D x y∧Ext V wx)
  case first =>
    by_cases hb:b=9218868437227405312
    · have bi:((b:Int) == 9218868437227405312)=true:=by rw [BI];exact decide_eq_true hb
      have bi':decide (b=9218868437227405312)=true:=decide_eq_true hb
      obtain rfl:(9218868437227405312:Int)=y:=by rw [←HY.out,if_pos hb];omega
      clear BI
      have bd:=bd.out
      have z0:=bd.c0
      have z1:=bd.c1
      have z2:=bd.f 0
      have z3:=bd.f 1
      have hb:=Lib.hid hb
      go_wp2
      go_meet
      exact ⟨bd.stored1 _,Below.trans st ((only_set1 _ _ _ _).below hVD)⟩
    · have bi:((b:Int) == 9218868437227405312)=false:=by rw [BI];exact decide_eq_false hb
      have bi':decide (b=9218868437227405312)=false:=decide_eq_false hb
      obtain rfl:((plainF (fsqrtF b 2):Nat):Int)=y:=by rw [←HY.out,if_neg hb]
      clear BI
      have hb:=Lib.hid hb
      go_wp2_with fail
      refine (Q2.out _ (HTV.out _ st)).mono ?_
      rintro r U3 ⟨rfl,hE⟩
      have bd:=bd.out.below hE
      have st:Ext V U3:=Ext.trans st hE
      clear hE c0 c1
      have z0:=bd.c0
      have z1:=bd.c1
      have z2:=bd.f 0
      have z3:=bd.f 1
      go_wp2_with fail
      refine (refPlus_any _ _).mono ?_
      rintro r U4 ⟨rfl,rfl⟩
      go_wp2
      go_meet
      exact ⟨bd.stored1 _,Below.trans st ((only_set1 _ _ _ _).below hVD)⟩
  case rest =>
  clear bd st c0 c1 BI
  obtain ⟨bd,st⟩:=hcut
  have d0:=bd.c0
  have d1:=bd.c1
  obtain ⟨-,bz⟩:=HC.out _ st
  have hst:=bz.stored x y
  have q0:=hst.c0
  have q1:=hst.c1
  have z0:=bz.c0
  have z1:=bz.c1
  have z2:=bz.f 0
  have z3:=bz.f 1
  have HF:=Lib.hid ((HB.out.trans (Below.mono st (by omega))).trans ((only_iset2 _ (B+1) (.int .u64 x) (.int .u64 y)).below (by omega)))
  clear hst
  clear bd
  go_wp2
  refine bodyPost_ret (v:=.agg #[.int .u64 x,.int .u64 y]) (by simp [results,Tryz.results22,go_sem,q0,q1]) rfl ⟨rfl,?_⟩
  show Below _ _ _
  rw [HBe.out]
  exact HF.out
open Go Go.RowKit
set_option maxRecDepth 100000 in
set_option maxHeartbeats 16000000 in
theorem refDiv_zero (a b c d:Nat) (g:Good a b) (g':Good c d) (hz:sgN (numI c) (numD c)≤0∧0≤sgN (numI d) (numD d)) (w:World) (hT:Table w) :
    Calls Tryz.prog 18 #[.agg #[.int .u64 (a:Int),.int .u64 (b:Int)],.agg #[.int .u64 (c:Int),.int .u64 (d:Int)]] w fun e w'=>e=.returned (.agg #[.int .u64 18442240474082181120,.int .u64 9218868437227405312])∧Ext w w':=by
  have C1:=Lib.hid (fun w=>refValid_any a b g.l1 g.l2 true g.valid w)
  have C2:=Lib.hid (fun w=>refValid_any c d g'.l1 g'.l2 true g'.valid w)
  have NA:=Lib.hid (fun w hT=>refNumOf_any a g.l1 _ _ rfl rfl w hT)
  have NB:=Lib.hid (fun w hT=>refNumOf_any b g.l2 _ _ rfl rfl w hT)
  have NC:=Lib.hid (fun w hT=>refNumOf_any c g'.l1 _ _ rfl rfl w hT)
  have ND:=Lib.hid (fun w hT=>refNumOf_any d g'.l2 _ _ rfl rfl w hT)
  obtain ⟨sc',hsc⟩:∃ s,sgN (numI c) (numD c)=s:=⟨_,rfl⟩
  obtain ⟨sd,hsd⟩:∃ s,sgN (numI d) (numD d)=s:=⟨_,rfl⟩
  have SC:=Lib.hid (fun v w hv hT=>refSgN_any v (numI c) (numD c) sc' hsc w hv hT)
  have SD:=Lib.hid (fun v w hv hT=>refSgN_any v (numI d) (numD d) sd hsd w hv hT)
  rw [hsc,hsd] at hz
  have HZ:=Lib.hid hz
  have HT:=Lib.hid hT
  clear hsc hsd hz g g' hT
  go_enter Tryz.func18,Tryz.ntmps18
  go_upto_region 1 with fail
  obtain ⟨W,hW,hB,hx,hy,hbx,hsz⟩:=ibox_three w a b c d 0 0
  rw [←hW]
  clear hW
  generalize hBe:w.heap.size=B at *
  have HBe:=Lib.hid hBe
  have HB:Hid (Below B w W):=Lib.hid (by rw [←hBe];exact hB)
  clear hBe hB
  have hBs:B+3≤W.heap.size:=hsz
  clear hsz
  have c0:=hx.c0
  have c1:=hx.c1
  have c2:=hy.c0
  have c3:=hy.c1
  go_wp2_with fail
  refine (C1.out _).mono ?_
  rintro r w1 ⟨rfl,hE⟩
  have hx:=hx.below hE
  have hy:=hy.below hE
  have hbx:=hbx.below hE
  have HB:=Lib.hid (HB.out.trans (Below.mono hE (by omega)))
  have hBs:B+3≤w1.heap.size:=by have:=Below.size hE;omega
  clear c0 c1 c2 c3 hE
  have c0:=hx.c0
  have c1:=hx.c1
  have c2:=hy.c0
  have c3:=hy.c1
  go_wp2_with fail
  refine (C2.out _).mono ?_
  rintro r V ⟨rfl,hE⟩
  have hx:=hx.below hE
  have hy:=hy.below hE
  have hbx:=hbx.below hE
  have HB:=Lib.hid (HB.out.trans (Below.mono hE (by omega)))
  have hBs:B+3≤V.heap.size:=by have:=Below.size hE;omega
  clear c0 c1 c2 c3 hE
  have HC:=Lib.hid (show ∀ wx,Ext V wx→((wx.cell? ⟨B,0,none⟩=some (.int .u64 (a:Int))∧wx.cell? ⟨B,1,none⟩=some (.int .u64 (b:Int)))∧(wx.cell? ⟨B+1,0,none⟩=some (.int .u64 (c:Int))∧wx.cell? ⟨B+1,1,none⟩=some (.int .u64 (d:Int))))∧IBox wx (B+1+1) 0 0 from fun wx h=>⟨⟨⟨(hx.below h).c0,(hx.below h).c1⟩,(hy.below h).c0,(hy.below h).c1⟩,hbx.below h⟩)
  have HTV:=Lib.hid (show ∀ wx,Ext V wx→Table wx from fun wx h=>(HT.out.below (Below.mono HB.out (Nat.le_of_eq HBe.out))).below h)
  clear hx hy hbx
  have c0:=(HC.out V (Ext.refl _)).1.1.1
  have c1:=(HC.out V (Ext.refl _)).1.1.2
  have c2:=(HC.out V (Ext.refl _)).1.2.1
  have c3:=(HC.out V (Ext.refl _)).1.2.2
  go_upto_region 3 with fail
  clear c0 c1 c2 c3
  have HC0:=Lib.hid (fun wx (h:Ext V wx)=>(HC.out wx h).1.1.1)
  have HC1:=Lib.hid (fun wx (h:Ext V wx)=>(HC.out wx h).1.1.2)
  have HC2:=Lib.hid (fun wx (h:Ext V wx)=>(HC.out wx h).1.2.1)
  have HC3:=Lib.hid (fun wx (h:Ext V wx)=>(HC.out wx h).1.2.2)
  rename_i K HK
  refine refDiv_r3 (fun _ _ h=>h) (fun a' wc hM=>HK _ _ ?_) NA NB NC ND HTV HC0 HC1 HC2 HC3
  clear HK
  unfold Met at hM
  obtain ⟨u5,u6,u7,u8,u21,u22,u23,u24,u25,u26,u27,u28,u29,u30,u31,u32,u33,u34,u35,u36,u37,u38,u39,u40,u41,u42,u43,u44,u45,u46,u47,u48,u49,u50,u51,u52,u53,u54,u55,u56,u57,u58,u59,u60,u61,u62,u63,u64,u65,u66,u67,u68,u69,u70,u71,u72,u73,u74,u75,u76,u77,u78,u79,u80,u81,u82,u83,u84,⟨g0,g1,g2,g3,v0,v1,v2,v3,rfl,rfl,rfl,rfl,⟨b0,m0,hv0⟩,⟨b1,m1,hv1⟩,⟨b2,m2,hv2⟩,⟨b3,m3,hv3⟩,hg,st⟩,rfl⟩:=hM
  obtain ⟨ai,ab,an,ao,ak,ac,af,rfl,b0⟩:=b0
  obtain ⟨bi,bb,bn,bo,bk,bc,bf,rfl,b1⟩:=b1
  obtain ⟨ci,cb,cn,co,ck,cc,cf,rfl,b2⟩:=b2
  obtain ⟨di,db,dn,do',dk,dc,df,rfl,b3⟩:=b3
  obtain ⟨U,hU⟩:∃ U,U=wc:=⟨_,rfl⟩
  subst hU
  clear HC0 HC1 HC2 HC3
  have hu0:=b0.lt
  have hu1:=b1.lt
  have hu2:=b2.lt
  have hu3:=b3.lt
  have HBX:=Lib.hid (fun wx (h:Ext U wx)=>(⟨b0.ext h,b1.ext h,b2.ext h,b3.ext h⟩:_∧_∧_∧_))
  have M0:=Lib.hid (fun wx (h:Ext U wx)=>m0.ext h)
  have M1:=Lib.hid (fun wx (h:Ext U wx)=>m1.ext h)
  have M2:=Lib.hid (fun wx (h:Ext U wx)=>m2.ext h)
  have M3:=Lib.hid (fun wx (h:Ext U wx)=>m3.ext h)
  have HTU:=Lib.hid (fun wx (h:Ext U wx)=>HTV.out wx (Ext.trans st h))
  have HST:=Lib.hid st
  clear b0 b1 b2 b3 m0 m1 m2 m3 st
  have st:Ext U U:=Ext.refl _
  have c0:=(HBX.out _ st).2.2.1.c0
  have c1:=(HBX.out _ st).2.2.1.c1
  have c2:=(HBX.out _ st).2.2.1.c2
  have c3:=(HBX.out _ st).2.2.1.c3
  have c4:=(HBX.out _ st).2.2.1.c4
  go_wp2_with fail
  refine (SC.out _ _ (M2.out _ st) (HTU.out _ st)).mono ?_
  rintro r1 wn ⟨rfl,hE⟩
  have st:Ext U wn:=Ext.trans st hE
  clear hE
  clear c0 c1 c2 c3 c4
  have hs1:decide (sc'≤0)=true:=decide_eq_true HZ.out.1
  have hs2:decide (0≤sd)=true:=decide_eq_true HZ.out.2
  have d0:=(HBX.out _ st).2.2.2.c0
  have d1:=(HBX.out _ st).2.2.2.c1
  have d2:=(HBX.out _ st).2.2.2.c2
  have d3:=(HBX.out _ st).2.2.2.c3
  have d4:=(HBX.out _ st).2.2.2.c4
  go_wp2_with fail
  refine (SD.out _ _ (M3.out _ st) (HTU.out _ st)).mono ?_
  rintro r2 wn ⟨rfl,hE⟩
  have st:Ext U wn:=Ext.trans st hE
  clear hE
  clear d0 d1 d2 d3 d4
  go_wp2_with fail
  refine (refAll_any _).mono ?_
  rintro r w9 ⟨rfl,hE⟩
  have std:=Ext.trans HST.out (Ext.trans st hE)
  clear hE
  obtain ⟨-,bz⟩:=HC.out _ std
  have hst:=bz.stored 18442240474082181120 9218868437227405312
  have q0:=hst.c0
  have q1:=hst.c1
  have z0:=bz.c0
  have z1:=bz.c1
  have z2:=bz.f 0
  have z3:=bz.f 1
  have HF:=Lib.hid ((HB.out.trans (Below.mono std (by omega))).trans ((only_iset2 _ (B+1+1) (.int .u64 18442240474082181120) (.int .u64 9218868437227405312)).below (by omega)))
  clear hst
  go_wp2
  refine bodyPost_ret (v:=.agg #[.int .u64 18442240474082181120,.int .u64 9218868437227405312]) (by simp [results,Tryz.results18,go_sem,q0,q1]) rfl ⟨rfl,?_⟩
  show Below _ _ _
  rw [HBe.out]
  exact HF.out
open Go Go.RowKit
structure TRegion (P:Program) (ops:Array Oper) (Q:Exit→Act→World→Prop) (L:World→Prop) (fr:(Nat→Value)→Act) (m n:Nat) (dst src g:Nat→Nat) (F:Nat→Value→World→Prop):Prop where
  size:ops.size=m+n
  ord:Region.ordered .any ops=true
  dd:∀ i,i<m→∀ j,j<m→dst i=dst j→i=j
  gg:∀ k,k<n→∀ l,l<n→g k=g l→k=l
  sd:∀ k,k<n→∃ j,j<m∧src k=dst j∧Region.waitsFor .any ops (m+k) j=true
  keep:∀ k,k<n→∀ w w',L w→NBa w (g k)→Only (g k) w w'→L w'
  lext:∀ w w',L w→Ext w w'→L w'
  stays:∀ j,j<m→Stays (F j)
  step:∀ j,j<m→∀ t w,L w→(∀ i,i<m→Region.waitsFor .any ops j i=true→F i (t (dst i)) w)→∀ K:Act→World→Prop,
    (∀ x w',Ext w w'→F j x w'→K (fr (upd t (dst j) x)) w')→wpOp P ops Q j K (fr t) w
  store:∀ k,k<n→∀ t w (K:Act→World→Prop) i bb nb ao N ca f,t (src k)=.agg #[.int .i64 i,.bool bb,.bool nb,.slice ao N ca,.int .i64 f]→NBa w (g k) →
    K (fr t) (((((w.setCell ⟨g k,0,none⟩ (.int .i64 i)).setCell ⟨g k,1,none⟩ (.bool bb)).setCell ⟨g k,2,none⟩ (.bool nb)).setCell ⟨g k,3,none⟩ (.slice ao N ca)).setCell ⟨g k,4,none⟩ (.int .i64 f))→wpOp P ops Q (m+k) K (fr t) w
  isnum:∀ k j,k<n→j<m→src k=dst j→∀ v w,F j v w→∃ i bb nb ao N ca f,v=.agg #[.int .i64 i,.bool bb,.bool nb,.slice ao N ca,.int .i64 f]
def TInv (L:World→Prop) (fr:(Nat→Value)→Act) (m n:Nat) (dst src g:Nat→Nat) (F:Nat→Value→World→Prop) (listed:Array Bool) (a:Act) (w:World):Prop :=
  ∃ t:Nat→Value,a=fr t∧L w∧(∀ j,j<m→listed.getD j false=true→F j (t (dst j)) w)∧(∀ k,k<n→NBa w (g k)) ∧
    (∀ k,k<n→listed.getD (m+k) false=true→(∀ j,j<m→src k=dst j→listed.getD j false=true)∧NBv w (g k) (t (src k)))
theorem region_sets {P:Program} {ops:Array Oper} {Q:Exit→Act→World→Prop} {L:World→Prop} {fr:(Nat→Value)→Act} {m n:Nat} {dst src g:Nat→Nat} {F:Nat→Value→World→Prop} (R:TRegion P ops Q L fr m n dst src g F) (t0:Nat→Value) (w:World) (hw:L w) (hb:∀ k,k<n→NBa w (g k))
    (hend:∀ (t:Nat→Value) w',L w'→(∀ j,j<m→F j (t (dst j)) w')→(∀ k,k<n→NBv w' (g k) (t (src k)))→Q .normal (fr t) w') :
    wpAny P .any ops Q ops.size (Array.replicate ops.size false) (fr t0) w:=by
  refine wpAny_inv (I:=TInv L fr m n dst src g F) ?_ ?_ R.ord _ _ _ _ (by simp) ?_ ?_
  · rintro i listed a wx hs hi ⟨t,rfl,hE,h1,h2,h4⟩
    have hlt:=ready_lt hi
    have hun:=getD_both (mem_ready.1 hi).1
    rw [R.size] at hlt
    by_cases c1:i<m
    · refine R.step i c1 t wx hE (fun j hj hw=>h1 j hj (ready_dep hi hw)) _ ?_
      intro x w' hE' hF
      refine ⟨_,rfl,R.lext _ _ hE hE',?_,fun k hk=>(h2 k hk).ext hE',?_⟩
      · intro j hj hl
        by_cases hji:j=i
        · subst hji;rw [upd_at];exact hF
        · rw [upd_ne _ _ (fun e=>hji (R.dd j hj i c1 e))]
          rcases listed_set hl with h | h
          · exact absurd h hji
          · exact (R.stays j hj).ext _ _ _ (h1 j hj h) hE'
      · intro k hk hl
        rcases listed_set hl with h | h
        · omega
        · obtain ⟨a3,a2⟩:=h4 k hk h
          refine ⟨fun j hj e=>getD_set_true (a3 j hj e),?_⟩
          obtain ⟨j,hj,hsj,hwf⟩:=R.sd k hk
          by_cases hji:j=i
          · exfalso
            subst hji
            have:=a3 j hj hsj
            rw [hun] at this
            cases this
          · rw [hsj,upd_ne _ _ (fun e=>hji (R.dd j hj i c1 e)),←hsj]
            exact a2.ext hE'
    · obtain ⟨k,rfl⟩:∃ k,i=m+k:=⟨i - m,by omega⟩
      have hk:k<n:=by omega
      obtain ⟨j,hj,hsj,hwf⟩:=R.sd k hk
      have e3:=h2 k hk
      have hF:=h1 j hj (ready_dep hi hwf)
      obtain ⟨iv,bb,nb,ao,N,ca,f,hv⟩:=R.isnum k j hk hj hsj _ _ hF
      rw [←hsj] at hv
      refine R.store k hk t wx _ iv bb nb ao N ca f hv e3 ?_
      have hno:=e3
      obtain ⟨i0,bb0,nb0,ao0,n0,ca0,f0,hbx⟩:=e3
      have ho:=only_set5 wx (g k) (.int .i64 iv) (.bool bb) (.bool nb) (.slice ao N ca) (.int .i64 f)
      have hst:=hbx.stored iv bb nb ao N ca f
      generalize ((((wx.setCell ⟨g k,0,none⟩ (.int .i64 iv)).setCell ⟨g k,1,none⟩ (.bool bb)).setCell ⟨g k,2,none⟩ (.bool nb)).setCell ⟨g k,3,none⟩ (.slice ao N ca)).setCell ⟨g k,4,none⟩ (.int .i64 f)=W at *
      refine ⟨t,rfl,R.keep k hk _ _ hE hno ho,?_,?_,?_⟩
      · intro j' hj' hl
        rcases listed_set hl with h | h
        · omega
        · exact (R.stays j' hj').only _ _ _ _ (h1 j' hj' h) hno ho
      · intro l hl
        by_cases hlk:l=k
        · subst hlk;exact ⟨_,_,_,_,_,_,_,hst⟩
        · exact (h2 l hl).only ho (fun e=>hlk (R.gg l hl k hk e))
      · intro l hl hll
        by_cases hlk:l=k
        · subst hlk
          refine ⟨fun j' hj' e=>?_,iv,bb,nb,ao,N,ca,f,hv,hst⟩
          rw [R.dd j' hj' j hj (e.symm.trans hsj)]
          exact getD_set_true (ready_dep hi hwf)
        · rcases listed_set hll with h | h
          · omega
          · obtain ⟨a3,a2⟩:=h4 l hl h
            exact ⟨fun j' hj' e=>getD_set_true (a3 j' hj' e),a2.only ho (fun e=>hlk (R.gg l hl k hk e))⟩
  · rintro listed a wx hall ⟨t,rfl,hE,h1,h2,h4⟩
    rw [R.size] at hall
    exact hend t wx hE (fun j hj=>h1 j hj (hall j (by omega))) (fun k hk=>(h4 k hk (hall _ (by omega))).2)
  · rw [Region.left]
    exact Nat.le_trans (List.countP_le_length) (by simp)
  · have hn:∀ j,(Array.replicate ops.size false).getD j false=true→False:=fun j h=>by
      rw [getD_replicate_false] at h;cases h
    exact ⟨t0,rfl,hw,fun j _ h=>(hn j h).elim,hb,fun k _ h=>(hn _ h).elim⟩
end Go.Proofs.YtkomhemjodbkpaaGreatDoor
