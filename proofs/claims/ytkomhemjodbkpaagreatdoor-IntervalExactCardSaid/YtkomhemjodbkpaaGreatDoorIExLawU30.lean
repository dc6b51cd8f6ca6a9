import Derived.Test.YtkomhemjodbkpaaGreatDoorIExLawU20
import Derived.Test.YtkomhemjodbkpaaGreatDoorIExLawU13
import Derived.Test.YtkomhemjodbkpaaGreatDoorIExLawU19
import Derived.Test.YtkomhemjodbkpaaGreatDoorIExLawU28
import Derived.Test.YtkomhemjodbkpaaGreatDoorIExLawU29
namespace Go.Proofs.YtkomhemjodbkpaaGreatDoor
open Go.RowKit
set_option maxRecDepth 100000 in
set_option maxHeartbeats 4000000 in
theorem ref_dadd_any (u v:Value) (d d':Dy) (w:World) (hu:Dl w u d) (hv:Dl w v d') (hT:Table w) :
    Calls Tryz.prog 90 #[u,v] w fun e w'=>∃ r,e=.returned r∧Dn w' r (dadd d d')∧Ext w w':=by
  have hu0:=hu
  have hv0:=hv
  obtain ⟨ub,un,uo,uk,uc,_,uf,rfl,-⟩:=hu0
  obtain ⟨vb,vn,vo,vk,vc,_,vf,rfl,-⟩:=hv0
  go_enter Tryz.func90,Tryz.ntmps90
  go_upto_region 1 with fail
  obtain ⟨W,hW,hB,hbx,hby,hrx,hz⟩:=boxes_ddd w ub un uo uk uc uf vb vn vo vk vc vf
  rw [←hW]
  clear hW
  have hu:=hu.ext hB
  have hv:=hv.ext hB
  have HT0:=Lib.hid hT
  have hT:=hT.below hB
  generalize hBe:w.heap.size=B at *
  have HBe:=Lib.hid hBe;clear hBe
  go_cut [] from 8 (fun wx=>∃ xb xn xo xk xc xe yb yn yo yk yc ye,Dn wx (.agg #[.bool xb,.bool xn,.slice xo xk xc,.int .i64 xe]) d∧Dn wx (.agg #[.bool yb,.bool yn,.slice yo yk yc,.int .i64 ye]) d' ∧
    DBox wx B xb xn xo xk xc xe∧DBox wx (B+1) yb yn yo yk yc ye∧Below B w wx∧(∀ k,B+1<k→k<W.heap.size→wx.heap[k]?=W.heap[k]?)∧W.heap.size≤wx.heap.size)
  case first =>
    have k0:=hbx.c0
    have k1:=hbx.c1
    have k2:=hbx.c2
    have k3:=hbx.c3
    have l0:=hby.c0
    have l1:=hby.c1
    have l2:=hby.c2
    have l3:=hby.c3
    go_region_with (first
      | (go_at_call 131;refine (refDNorm_any _ _ _ (by exact hu.ext (by exact (Below.refl _ _).drew)) (by exact hT.below (by exact (Below.refl _ _).drew))).mono ?_;rintro e w1 ⟨r1,rfl,hr1,hw1⟩;have ex1:Ext W w1:=Ext.trans (by exact (Below.refl _ _).drew) hw1;obtain ⟨xb,xn,xo,xk,xc,xe,rfl⟩:=hr1.parts;have fb:=hby.ext ex1;have h0:=fb.c0;have h1:=fb.c1;have h2:=fb.c2;have h3:=fb.c3)
      | (go_at_call 131;refine (refDNorm_any _ _ _ (by exact hv.ext ex1) (by exact hT.below ex1)).mono ?_;rintro e w2 ⟨r2,rfl,hr2,hw2⟩;have ex2:Ext W w2:=Ext.trans ex1 hw2;obtain ⟨yb,yn,yo,yk,yc,ye,rfl⟩:=hr2.parts;have hr1:=hr1.ext hw2;clear h0 h1 h2 h3;have fa:=hbx.ext ex2;have fb:=hby.ext ex2;have a0:=fa.c0;have a1:=fa.c1;have a2:=fa.c2;have a3:=fa.c3;have b0:=fb.c0;have b1:=fb.c1;have b2:=fb.c2;have b3:=fb.c3;have g0:=fa.f 0;have g1:=fa.f 1;have g2:=fa.f 2;have g3:=fa.f 3;have h0:=fb.f 0;have h1:=fb.f 1;have h2:=fb.f 2;have h3:=fb.f 3))
    all_goals
      go_wp2
      go_meet
    all_goals
      clear a0 a1 a2 a3 b0 b1 b2 b3 g0 g1 g2 g3 h0 h1 h2 h3 k0 k1 k2 k3 l0 l1 l2 l3
      obtain ⟨hB2,hB2'⟩:=bnext hB (by omega) ex2
      obtain ⟨Z,hZ,z1,z2,z3,z4,z5,z6,z7⟩:=two_dyads fa fb (by omega) (Nat.le_refl B) (Nat.le_succ B) hr1 hr2 hB2
      rw [←hZ]
      exact ⟨_,_,_,_,_,_,_,_,_,_,_,_,z1,z2,z4,z5,z3,fun k hk1 hk2=>by rw [z6 k (by omega) (by omega)];exact Below.block ex2 k hk2,by rw [z7];exact Below.size ex2⟩
  case rest =>
    obtain ⟨xb,xn,xo,xk,xc,xe,yb,yn,yo,yk,yc,ye,hx,hy,bx,bY,hB1,hkeep,hzc⟩:=hcut
    have hT1:=(show Table w from HT0.out).below (w':=wc) (by rw [HBe.out];exact hB1)
    have hrx:DBox wc (B+1+1) false false none 0 0 0:=by
      have:=hrx
      unfold DBox at this ⊢
      rw [hkeep _ (by omega) (by omega)];exact this
    have HT:=Lib.hid hT1
    clear hT1 hbx hby hu hv hT hB hkeep
    have k0:=bx.c0
    have k1:=bx.c1
    have k2:=bx.c2
    have k3:=bx.c3
    have l0:=bY.c0
    have l1:=bY.c1
    have l2:=bY.c2
    have l3:=bY.c3
    cases d with
    | none =>
      obtain rfl:=dn_none hx
      go_wp2_with fail
      refine (refBad_any _).mono ?_
      rintro e w1 ⟨rfl,hw1⟩
      have c1:=hrx.below hw1
      obtain ⟨hB2,hB2'⟩:=bnext hB1 (by omega) hw1
      have q0:=c1.c0
      have q1:=c1.c1
      have q2:=c1.c2
      have q3:=c1.c3
      have f0:=c1.f 0
      have f1:=c1.f 1
      have f2:=c1.f 2
      have f3:=c1.f 3
      have hres:=dn_stored c1 (dn_bad w1) w hB2 (by omega)
      have z3:=c1.stored true false none 0 0 0
      have z0:=z3.c0
      have z1:=z3.c1
      have z2:=z3.c2
      have z4:=z3.c3
      have HRES:=Lib.hid hres;clear hres z3
      go_wp2
      refine bodyPost_ret (v:=.agg #[.bool true,.bool false,.slice none 0 0,.int .i64 0]) (by simp [results,Tryz.results90,go_sem,z0,z1,z2,z4]) rfl ⟨_,rfl,?_,?_⟩
      · exact HRES.out.1
      · show Below _ _ _;rw [HBe.out];exact HRES.out.2
    | some p =>
      obtain ⟨m,f⟩:=p
      obtain ⟨rfl,rfl,hm⟩:=dn_some hx
      cases d' with
      | none =>
        obtain rfl:=dn_none hy
        go_wp2_with fail
        refine (refBad_any _).mono ?_
        rintro e w1 ⟨rfl,hw1⟩
        have c1:=hrx.below hw1
        obtain ⟨hB2,hB2'⟩:=bnext hB1 (by omega) hw1
        have q0:=c1.c0
        have q1:=c1.c1
        have q2:=c1.c2
        have q3:=c1.c3
        have f0:=c1.f 0
        have f1:=c1.f 1
        have f2:=c1.f 2
        have f3:=c1.f 3
        have hres:=dn_stored c1 (dn_bad w1) w hB2 (by omega)
        have z3:=c1.stored true false none 0 0 0
        have z0:=z3.c0
        have z1:=z3.c1
        have z2:=z3.c2
        have z4:=z3.c3
        have HRES:=Lib.hid hres;clear hres z3
        go_wp2
        refine bodyPost_ret (v:=.agg #[.bool true,.bool false,.slice none 0 0,.int .i64 0]) (by simp [results,Tryz.results90,go_sem,z0,z1,z2,z4]) rfl ⟨_,rfl,?_,?_⟩
        · exact HRES.out.1
        · show Below _ _ _;rw [HBe.out];exact HRES.out.2
      | some q =>
        obtain ⟨m',f'⟩:=q
        obtain ⟨rfl,rfl,hm'⟩:=dn_some hy
        have hnx:=hx.1
        have hny:=hy.1
        clear hx hy
        go_wp2_with fail
        refine (refAlign_any _ _ _ _ _ _ _ _ _ _ _ _ _ hm hm' hnx hny).mono ?_
        rintro e w1 ⟨an,ao',ak,ac,bn,bo',bk,bc,X,Y,E,rfl,hX,hY,hAl,hak,hbk,hw1⟩
        have c1:=hrx.below hw1
        have HT:=Lib.hid (HT.out.below hw1)
        obtain ⟨hB2,hB2'⟩:=bnext hB1 (by omega) hw1
        have hz1:=hw1.size
        have hE0:=hAl.1
        have hE1:=hAl.2.1
        have HAL:=Lib.hid hAl
        clear k0 k1 k2 k3 l0 l1 l2 l3 hm hm' hnx hny hAl hrx hB1 bx bY hw1
        go_upto_region 5 with fail
        obtain ⟨V,hV,hv,e1,e2⟩:=boxes_bb w1 an ao' ak ac bn bo' bk bc
        rw [←hV]
        clear hV
        have hX:=hX.below hv
        have hY:=hY.below hv
        have c1:=c1.below hv
        have HT:=Lib.hid (HT.out.below hv)
        obtain ⟨hB2,hB2'⟩:=bnext hB2 (by omega) hv
        have hz2:=hv.size
        have k0:=e1.c0
        have k1:=e1.c1
        have l0:=e2.c0
        have l1:=e2.c1
        clear hv
        generalize w1.heap.size=D at *
        have HBL:=Lib.hid (show blen (X+Y).natAbs≤1000000 by
          have a:=blen_add X Y
          have b:=HAL.out.2.2.2.2
          omega)
        go_wp2_with fail
        refine (refAdd_any _ _ _ _ _ _ _ _ _ _ _ hX hY).mono ?_
        rintro e w2 ⟨nr,ro,l,cr,rfl,hr,hw2⟩
        have hr:=bn_bg_of hr HBL.out
        have c1:=c1.below hw2
        have HT:=Lib.hid (HT.out.below hw2)
        obtain ⟨hB3,hB3'⟩:=bnext hB2 (by omega) hw2
        have hz3:=hw2.size
        clear k0 k1 l0 l1 hw2
        go_wp2_with fail
        refine (refMake_any _ _ _ _ _ _ _ hr HBL.out (by omega) (by omega) HT.out).mono ?_
        rintro e w3 ⟨r,rfl,hr2,hw3⟩
        rw [dadd_al HAL.out] at hr2
        have c1:=c1.below hw3
        obtain ⟨hB4,hB4'⟩:=bnext hB3 (by omega) hw3
        obtain ⟨rb,rn,ro2,rk,rc,re,rfl⟩:=hr2.parts
        have q0:=c1.c0
        have q1:=c1.c1
        have q2:=c1.c2
        have q3:=c1.c3
        have f0:=c1.f 0
        have f1:=c1.f 1
        have f2:=c1.f 2
        have f3:=c1.f 3
        have hres:=dn_stored c1 hr2 w hB4 (by omega)
        have z3:=c1.stored rb rn ro2 rk rc re
        have z0:=z3.c0
        have z1:=z3.c1
        have z2:=z3.c2
        have z4:=z3.c3
        have HRES:=Lib.hid hres;clear hres z3
        go_wp2
        refine bodyPost_ret (v:=.agg #[.bool rb,.bool rn,.slice ro2 rk rc,.int .i64 re]) (by simp [results,Tryz.results90,go_sem,z0,z1,z2,z4]) rfl ⟨_,rfl,?_,?_⟩
        · exact HRES.out.1
        · show Below _ _ _;rw [HBe.out];exact HRES.out.2
open Go.RowKit
theorem nbx_three (w:World) {ub un vb vn:Bool} {uo vo:Option Addr} {uk uc vk vc:Nat} {uf vf i j:Int} :
    ∃ W,W=((w.alloc (.cells #[.int .i64 i,.bool ub,.bool un,.slice uo uk uc,.int .i64 uf] 56)).alloc (.cells #[.int .i64 j,.bool vb,.bool vn,.slice vo vk vc,.int .i64 vf] 56)).alloc (.cells #[.int .i64 0,.bool false,.bool false,.slice none 0 0,.int .i64 0] 56)∧Below w.heap.size w W∧NBx W w.heap.size i ub un uo uk uc uf∧NBx W (w.heap.size+1) j vb vn vo vk vc vf∧NBx W (w.heap.size+1+1) 0 false false none 0 0 0∧w.heap.size+1+1+1≤W.heap.size:=by
  refine ⟨_,rfl,(((Below.refl _ w).alloc (Nat.le_refl _) _).alloc (by simp) _).alloc (by simp;omega) _,?_,?_,?_,by simp⟩
  · exact ((NBx.new w i ub un uo uk uc uf).below ((Below.refl _ _).alloc (Nat.le_refl _) _)).below ((Below.refl _ _).alloc (Nat.le_refl _) _)
  · have:=(NBx.new (w.alloc (.cells #[.int .i64 i,.bool ub,.bool un,.slice uo uk uc,.int .i64 uf] 56)) j vb vn vo vk vc vf).below ((Below.refl _ _).alloc (Nat.le_refl _) (.cells #[.int .i64 0,.bool false,.bool false,.slice none 0 0,.int .i64 0] 56))
    simpa using this
  · have:=NBx.new ((w.alloc (.cells #[.int .i64 i,.bool ub,.bool un,.slice uo uk uc,.int .i64 uf] 56)).alloc (.cells #[.int .i64 j,.bool vb,.bool vn,.slice vo vk vc,.int .i64 vf] 56)) 0 false false none 0 0 0
    simpa using this
set_option maxRecDepth 100000 in
set_option maxHeartbeats 8000000 in
theorem refSum_any (u v:Value) (i j:Int) (d e:Dy) (w:World) (hu:NumV w u i d) (hv:NumV w v j e) (hT:Table w) :
    Calls Tryz.prog 47 #[u,v] w fun x w'=>∃ r,x=.returned r∧NumV w' r (sumI i j) (sumD i d j e)∧Ext w w':=by
  obtain ⟨ub,un,uo,uk,uc,uf,rfl,hu⟩:=hu
  obtain ⟨vb,vn,vo,vk,vc,vf,rfl,hv⟩:=hv
  have HT:=Lib.hid hT
  clear hT
  obtain ⟨k,hk⟩:∃ k,sumI i j=k:=⟨_,rfl⟩
  obtain ⟨t,ht⟩:∃ t,sumD i d j e=t:=⟨_,rfl⟩
  rw [hk,ht]
  have hk:=Lib.hid hk
  have ht:=Lib.hid ht
  go_enter Tryz.func47,Tryz.ntmps47
  go_upto_region 1 with fail
  obtain ⟨W,hW,hB,hx,hy,hz,hsz⟩:=nbx_three w (ub:=ub) (un:=un) (uo:=uo) (uk:=uk) (uc:=uc) (uf:=uf) (i:=i) (vb:=vb) (vn:=vn) (vo:=vo) (vk:=vk) (vc:=vc) (vf:=vf) (j:=j)
  rw [←hW]
  clear hW
  have HT:=Lib.hid (HT.out.below hB)
  have hu:=hu.ext hB
  have hv:=hv.ext hB
  generalize hBe:w.heap.size=B at *
  have HBe:=Lib.hid hBe
  clear hBe
  have x0:=hx.c0
  have x1:=hx.c1
  have x2:=hx.c2
  have x3:=hx.c3
  have x4:=hx.c4
  have y0:=hy.c0
  have y1:=hy.c1
  have y2:=hy.c2
  have y3:=hy.c3
  have y4:=hy.c4
  by_cases hi:i=0
  · have bi:(i != 0)=false:=by simp [hi]
    by_cases hj:j=0
    · have bj:(j != 0)=false:=by simp [hj]
      obtain rfl:(0:Int)=k:=by rw [←hk.out];unfold sumI;rw [if_neg (by simp [hi]),hj]
      obtain rfl:dadd d e=t:=by rw [←ht.out];unfold sumD;rw [if_neg (by simp [hi]),if_neg (by simp [hj])]
      go_wp2_with fail
      refine (ref_dadd_any _ _ d e _ hu.dl hv.dl HT.out).mono ?_
      rintro r w1 ⟨v3,rfl,h3,hE⟩
      obtain ⟨rb,rn,ro,rk,rc,rf,rfl⟩:=h3.parts
      have hz:=hz.below hE
      have HB1:Below B w w1:=hB.trans (Below.mono hE (by omega))
      clear x0 x1 x2 x3 x4 y0 y1 y2 y3 y4 hx hy hu hv hE hi hj hB hk ht
      have q0:=hz.c0
      have q1:=hz.c1
      have q2:=hz.c2
      have q3:=hz.c3
      have q4:=hz.c4
      have f0:=hz.f 0
      have f1:=hz.f 1
      have f2:=hz.f 2
      have f3:=hz.f 3
      have f4:=hz.f 4
      have hres:=numV_stored (j:=0) hz h3 HB1 (by omega)
      have z:=hz.stored 0 rb rn ro rk rc rf
      have z0:=z.c0
      have z1:=z.c1
      have z2:=z.c2
      have z3:=z.c3
      have z4:=z.c4
      have HRES:=Lib.hid hres
      clear hres z
      go_wp2
      refine bodyPost_ret (v:=.agg #[.int .i64 0,.bool rb,.bool rn,.slice ro rk rc,.int .i64 rf]) (by simp [results,Tryz.results47,go_sem,z0,z1,z2,z3,z4]) rfl ⟨_,rfl,HRES.out.1,?_⟩
      show Below _ _ _
      rw [HBe.out]
      exact HRES.out.2
    · have bj:(j != 0)=true:=by simp [hj]
      obtain rfl:j=k:=by rw [←hk.out];unfold sumI;rw [if_neg (by simp [hi])]
      obtain rfl:e=t:=by rw [←ht.out];unfold sumD;rw [if_neg (by simp [hi]),if_pos hj]
      clear hi hj hx hy hk ht
      have q0:=hz.c0
      have q1:=hz.c1
      have q2:=hz.c2
      have q3:=hz.c3
      have q4:=hz.c4
      have f0:=hz.f 0
      have f1:=hz.f 1
      have f2:=hz.f 2
      have f3:=hz.f 3
      have f4:=hz.f 4
      have hres:=numV_stored (j:=j) hz hv hB (by omega)
      have z:=hz.stored j vb vn vo vk vc vf
      have z0:=z.c0
      have z1:=z.c1
      have z2:=z.c2
      have z3:=z.c3
      have z4:=z.c4
      have HRES:=Lib.hid hres
      clear hres z
      go_wp2
      refine bodyPost_ret (v:=.agg #[.int .i64 j,.bool vb,.bool vn,.slice vo vk vc,.int .i64 vf]) (by simp [results,Tryz.results47,go_sem,z0,z1,z2,z3,z4]) rfl ⟨_,rfl,HRES.out.1,?_⟩
      show Below _ _ _
      rw [HBe.out]
      exact HRES.out.2
  · have bi:(i != 0)=true:=by simp [hi]
    obtain rfl:i=k:=by rw [←hk.out];unfold sumI;rw [if_pos hi]
    obtain rfl:d=t:=by rw [←ht.out];unfold sumD;rw [if_pos hi]
    clear hi hx hy hk ht
    have q0:=hz.c0
    have q1:=hz.c1
    have q2:=hz.c2
    have q3:=hz.c3
    have q4:=hz.c4
    have f0:=hz.f 0
    have f1:=hz.f 1
    have f2:=hz.f 2
    have f3:=hz.f 3
    have f4:=hz.f 4
    have hres:=numV_stored (j:=i) hz hu hB (by omega)
    have z:=hz.stored i ub un uo uk uc uf
    have z0:=z.c0
    have z1:=z.c1
    have z2:=z.c2
    have z3:=z.c3
    have z4:=z.c4
    have HRES:=Lib.hid hres
    clear hres z
    go_wp2
    refine bodyPost_ret (v:=.agg #[.int .i64 i,.bool ub,.bool un,.slice uo uk uc,.int .i64 uf]) (by simp [results,Tryz.results47,go_sem,z0,z1,z2,z3,z4]) rfl ⟨_,rfl,HRES.out.1,?_⟩
    show Below _ _ _
    rw [HBe.out]
    exact HRES.out.2
set_option maxRecDepth 100000 in
set_option maxHeartbeats 16000000 in
theorem refAdd_yes (a b c d:Nat) (g:Good a b) (g':Good c d) (w:World) (hT:Table w) :
    Calls Tryz.prog 12 #[.agg #[.int .u64 (a:Int),.int .u64 (b:Int)],.agg #[.int .u64 (c:Int),.int .u64 (d:Int)]] w fun e w'=>e=.returned (.agg #[.int .u64 ((plainF (faddF a c 1):Nat):Int),.int .u64 ((plainF (faddF b d 2):Nat):Int)])∧Ext w w':=by
  have C1:=Lib.hid (fun w=>refValid_any a b g.l1 g.l2 true g.valid w)
  have C2:=Lib.hid (fun w=>refValid_any c d g'.l1 g'.l2 true g'.valid w)
  have NA:=Lib.hid (fun w hT=>refNumOf_any a g.l1 _ _ rfl rfl w hT)
  have NB:=Lib.hid (fun w hT=>refNumOf_any b g.l2 _ _ rfl rfl w hT)
  have NC:=Lib.hid (fun w hT=>refNumOf_any c g'.l1 _ _ rfl rfl w hT)
  have ND:=Lib.hid (fun w hT=>refNumOf_any d g'.l2 _ _ rfl rfl w hT)
  have S1:=Lib.hid (fun u v w hu hv hT=>refSum_any u v (numI a) (numI c) (numD a) (numD c) w hu hv hT)
  have S2:=Lib.hid (fun u v w hu hv hT=>refSum_any u v (numI b) (numI d) (numD b) (numD d) w hu hv hT)
  have OW:=Lib.hid (fun u v w hu hv hT=>refOutward_any u v (sumI (numI a) (numI c)) (sumI (numI b) (numI d)) (sumD (numI a) (numD a) (numI c) (numD c)) (sumD (numI b) (numD b) (numI d) (numD d)) w hu hv hT)
  rw [sum_low g.l1 g'.l1 g.n1 g'.n1 g.lo g'.lo,sum_high g.l2 g'.l2 g.n2 g'.n2 g.hi g'.hi] at OW
  obtain ⟨x,hx⟩:∃ x:Int,((plainF (faddF a c 1):Nat):Int)=x:=⟨_,rfl⟩
  obtain ⟨y,hy⟩:∃ y:Int,((plainF (faddF b d 2):Nat):Int)=y:=⟨_,rfl⟩
  rw [hx,hy] at OW
  rw [hx,hy]
  have HT:=Lib.hid hT
  clear hx hy g g' hT
  generalize sumI (numI a) (numI c)=i1 at *
  generalize sumI (numI b) (numI d)=i2 at *
  generalize sumD (numI a) (numD a) (numI c) (numD c)=d1 at *
  generalize sumD (numI b) (numD b) (numI d) (numD d)=d2 at *
  generalize numI a=ia at *
  generalize numI b=ib at *
  generalize numI c=ic at *
  generalize numI d=id at *
  generalize numD a=da at *
  generalize numD b=db at *
  generalize numD c=dc at *
  generalize numD d=dd at *
  go_enter Tryz.func12,Tryz.ntmps12
  go_upto_region 1 with fail
  obtain ⟨W,hW,hB,hx,hy,hbx,hsz⟩:=ibox_three w a b c d 0 0
  rw [←hW]
  clear hW
  generalize hBe:w.heap.size=B at *
  have HBe:=Lib.hid hBe
  have HB:Hid (Below B w W):=Lib.hid (by rw [←hBe];exact hB)
  clear hBe hB
  have hBs:B+3≤W.heap.size:=hsz
  clear hsz
  have c0:=hx.c0
  have c1:=hx.c1
  have c2:=hy.c0
  have c3:=hy.c1
  go_wp2_with fail
  refine (C1.out _).mono ?_
  rintro r w1 ⟨rfl,hE⟩
  have hx:=hx.below hE
  have hy:=hy.below hE
  have hbx:=hbx.below hE
  have HB:=Lib.hid (HB.out.trans (Below.mono hE (by omega)))
  have hBs:B+3≤w1.heap.size:=by have:=Below.size hE;omega
  clear c0 c1 c2 c3 hE
  have c0:=hx.c0
  have c1:=hx.c1
  have c2:=hy.c0
  have c3:=hy.c1
  go_wp2_with fail
  refine (C2.out _).mono ?_
  rintro r V ⟨rfl,hE⟩
  have hx:=hx.below hE
  have hy:=hy.below hE
  have hbx:=hbx.below hE
  have HB:=Lib.hid (HB.out.trans (Below.mono hE (by omega)))
  have hBs:B+3≤V.heap.size:=by have:=Below.size hE;omega
  clear c0 c1 c2 c3 hE
  have HC:=Lib.hid (show ∀ wx,Ext V wx→((wx.cell? ⟨B,0,none⟩=some (.int .u64 (a:Int))∧wx.cell? ⟨B,1,none⟩=some (.int .u64 (b:Int)))∧(wx.cell? ⟨B+1,0,none⟩=some (.int .u64 (c:Int))∧wx.cell? ⟨B+1,1,none⟩=some (.int .u64 (d:Int))))∧IBox wx (B+1+1) 0 0 from fun wx h=>⟨⟨⟨(hx.below h).c0,(hx.below h).c1⟩,(hy.below h).c0,(hy.below h).c1⟩,hbx.below h⟩)
  have HTV:=Lib.hid (show ∀ wx,Ext V wx→Table wx from fun wx h=>(HT.out.below (Below.mono HB.out (Nat.le_of_eq HBe.out))).below h)
  clear hx hy hbx
  obtain ⟨⟨⟨c0,c1⟩,c2,c3⟩,bz⟩:=HC.out V (Ext.refl _)
  have z0:=bz.c0
  have z1:=bz.c1
  have z2:=bz.f 0
  have z3:=bz.f 1
  go_upto_region 3 with fail
  have st:Ext V V.drew:=(Below.refl _ _).drew
  go_region_held3 (fun wx=>(wx.cell? ⟨B,0,none⟩=some (.int .u64 (a:Int))∧wx.cell? ⟨B,1,none⟩=some (.int .u64 (b:Int)))∧(wx.cell? ⟨B+1,0,none⟩=some (.int .u64 (c:Int))∧wx.cell? ⟨B+1,1,none⟩=some (.int .u64 (d:Int))))
    (first | exact (HC.out _ (by assumption)).1 | ((refine ⟨⟨?_,?_⟩,?_,?_⟩) <;> go_simp))
    (first
      | (go_at_call 48;(with_reducible refine (NA.out _ (HTV.out _ (by assumption))).mono ?_);rintro r wn ⟨va,rfl,hva,hE⟩;have st:Ext V wn:=Ext.trans (by assumption) hE;clear hE)
      | (go_at_call 48;(with_reducible refine (NC.out _ (HTV.out _ (by assumption))).mono ?_);rintro r wn ⟨vc,rfl,hvc,hE⟩;have st:Ext V wn:=Ext.trans (by assumption) hE;(first | (have hva:=hva.ext hE) | skip);clear hE)
      | (go_at_call 47;(refine (S1.out _ _ _ (by exact hva) (by exact hvc) (HTV.out _ (by assumption))).mono ?_);rintro r wn ⟨v1,rfl,h1,hE⟩;have st:Ext V wn:=Ext.trans (by assumption) hE;clear hE hva hvc)
      | (go_at_call 48;(with_reducible refine (NB.out _ (HTV.out _ (by assumption))).mono ?_);rintro r wn ⟨vb,rfl,hvb,hE⟩;have st:Ext V wn:=Ext.trans (by assumption) hE;(first | (have h1:=h1.ext hE) | skip);clear hE)
      | (go_at_call 48;(with_reducible refine (ND.out _ (HTV.out _ (by assumption))).mono ?_);rintro r wn ⟨vd,rfl,hvd,hE⟩;have st:Ext V wn:=Ext.trans (by assumption) hE;(first | (have h1:=h1.ext hE) | skip);(first | (have hvb:=hvb.ext hE) | skip);clear hE)
      | (go_at_call 47;(refine (S2.out _ _ _ (by exact hvb) (by exact hvd) (HTV.out _ (by assumption))).mono ?_);rintro r wn ⟨v2,rfl,h2,hE⟩;have st:Ext V wn:=Ext.trans (by assumption) hE;have h1:=h1.ext hE;clear hE hvb hvd)
      | (go_at_call 46;(refine (OW.out _ _ _ (by exact h1) (by exact h2) (HTV.out _ (by assumption))).mono ?_);rintro r wd ⟨rfl,hE⟩;have std:Ext V wd:=Ext.trans (by assumption) hE;obtain ⟨⟨⟨e0,e1⟩,e2,e3⟩,bz⟩:=HC.out wd std;have z0:=bz.c0;have z1:=bz.c1;have z2:=bz.f 0;have z3:=bz.f 1))
  all_goals
    have hst:=bz.stored x y
    have y0:=hst.c0
    have y1:=hst.c1
    have HF:=Lib.hid ((HB.out.trans (Below.mono std (by omega))).trans ((only_iset2 wd (B+1+1) (.int .u64 x) (.int .u64 y)).below (by omega)))
    clear hst z0 z1 z2 z3
    go_wp2
    refine bodyPost_ret (v:=.agg #[.int .u64 x,.int .u64 y]) (by simp [results,Tryz.results12,go_sem,y0,y1]) rfl ⟨rfl,?_⟩
    show Below _ _ _
    rw [HBe.out]
    exact HF.out
set_option maxRecDepth 100000 in
set_option maxHeartbeats 16000000 in
theorem refSub_yes (a b c d:Nat) (g:Good a b) (g':Good c d) (w:World) (hT:Table w) :
    Calls Tryz.prog 14 #[.agg #[.int .u64 (a:Int),.int .u64 (b:Int)],.agg #[.int .u64 (c:Int),.int .u64 (d:Int)]] w fun e w'=>e=.returned (.agg #[.int .u64 ((plainF (faddF a (plainF (fnegF d)) 1):Nat):Int),.int .u64 ((plainF (faddF b (plainF (fnegF c)) 2):Nat):Int)])∧Ext w w':=by
  have C1:=Lib.hid (fun w=>refValid_any a b g.l1 g.l2 true g.valid w)
  have C2:=Lib.hid (fun w=>refValid_any c d g'.l1 g'.l2 true g'.valid w)
  have KN:=Lib.hid (fun w=>refNeg_yes c d g' w)
  have gn:=(neg_good g').1
  have KA:=Lib.hid (fun w hT=>refAdd_yes a b (plainF (fnegF d)) (plainF (fnegF c)) g gn w hT)
  generalize plainF (fnegF d)=p at *
  generalize plainF (fnegF c)=q at *
  obtain ⟨x,hx⟩:∃ x:Int,((plainF (faddF a p 1):Nat):Int)=x:=⟨_,rfl⟩
  obtain ⟨y,hy⟩:∃ y:Int,((plainF (faddF b q 2):Nat):Int)=y:=⟨_,rfl⟩
  rw [hx,hy] at KA
  rw [hx,hy]
  have HT:=Lib.hid hT
  clear hx hy g g' gn hT
  go_enter Tryz.func14,Tryz.ntmps14
  go_upto_region 1 with fail
  obtain ⟨W,hW,hB,hx,hy,hbx,hsz⟩:=ibox_three w a b c d 0 0
  rw [←hW]
  clear hW
  generalize hBe:w.heap.size=B at *
  have HBe:=Lib.hid hBe
  have HB:Hid (Below B w W):=Lib.hid (by rw [←hBe];exact hB)
  clear hBe hB
  have hBs:B+3≤W.heap.size:=hsz
  clear hsz
  have c0:=hx.c0
  have c1:=hx.c1
  have c2:=hy.c0
  have c3:=hy.c1
  go_wp2_with fail
  refine (C1.out _).mono ?_
  rintro r w1 ⟨rfl,hE⟩
  have hx:=hx.below hE
  have hy:=hy.below hE
  have hbx:=hbx.below hE
  have HB:=Lib.hid (HB.out.trans (Below.mono hE (by omega)))
  have hBs:B+3≤w1.heap.size:=by have:=Below.size hE;omega
  clear c0 c1 c2 c3 hE
  have c0:=hx.c0
  have c1:=hx.c1
  have c2:=hy.c0
  have c3:=hy.c1
  go_wp2_with fail
  refine (C2.out _).mono ?_
  rintro r V ⟨rfl,hE⟩
  have hx:=hx.below hE
  have hy:=hy.below hE
  have hbx:=hbx.below hE
  have HB:=Lib.hid (HB.out.trans (Below.mono hE (by omega)))
  have hBs:B+3≤V.heap.size:=by have:=Below.size hE;omega
  clear c0 c1 c2 c3 hE
  have HC:=Lib.hid (show ∀ wx,Ext V wx→((wx.cell? ⟨B,0,none⟩=some (.int .u64 (a:Int))∧wx.cell? ⟨B,1,none⟩=some (.int .u64 (b:Int)))∧(wx.cell? ⟨B+1,0,none⟩=some (.int .u64 (c:Int))∧wx.cell? ⟨B+1,1,none⟩=some (.int .u64 (d:Int))))∧IBox wx (B+1+1) 0 0 from fun wx h=>⟨⟨⟨(hx.below h).c0,(hx.below h).c1⟩,(hy.below h).c0,(hy.below h).c1⟩,hbx.below h⟩)
  have HTV:=Lib.hid (show ∀ wx,Ext V wx→Table wx from fun wx h=>(HT.out.below (Below.mono HB.out (Nat.le_of_eq HBe.out))).below h)
  clear hx hy hbx
  obtain ⟨⟨⟨c0,c1⟩,c2,c3⟩,bz⟩:=HC.out V (Ext.refl _)
  have z0:=bz.c0
  have z1:=bz.c1
  have z2:=bz.f 0
  have z3:=bz.f 1
  go_upto_region 3 with fail
  have st:Ext V V.drew:=(Below.refl _ _).drew
  go_region_held3 (fun wx=>(wx.cell? ⟨B,0,none⟩=some (.int .u64 (a:Int))∧wx.cell? ⟨B,1,none⟩=some (.int .u64 (b:Int)))∧(wx.cell? ⟨B+1,0,none⟩=some (.int .u64 (c:Int))∧wx.cell? ⟨B+1,1,none⟩=some (.int .u64 (d:Int))))
    (first | exact (HC.out _ (by assumption)).1 | ((refine ⟨⟨?_,?_⟩,?_,?_⟩) <;> go_simp))
    (first
      | (go_at_call 10;(with_reducible refine (KN.out _).mono ?_);rintro r wn ⟨rfl,hE⟩;have st:Ext V wn:=Ext.trans (by assumption) hE;clear hE)
      | (go_at_call 12;(with_reducible refine (KA.out _ (HTV.out _ (by assumption))).mono ?_);rintro r wd ⟨rfl,hE⟩;have std:Ext V wd:=Ext.trans (by assumption) hE;obtain ⟨⟨⟨e0,e1⟩,e2,e3⟩,bz⟩:=HC.out wd std;have z0:=bz.c0;have z1:=bz.c1;have z2:=bz.f 0;have z3:=bz.f 1))
  all_goals
    have hst:=bz.stored x y
    have y0:=hst.c0
    have y1:=hst.c1
    have HF:=Lib.hid ((HB.out.trans (Below.mono std (by omega))).trans ((only_iset2 wd (B+1+1) (.int .u64 x) (.int .u64 y)).below (by omega)))
    clear hst z0 z1 z2 z3
    go_wp2
    refine bodyPost_ret (v:=.agg #[.int .u64 x,.int .u64 y]) (by simp [results,Tryz.results14,go_sem,y0,y1]) rfl ⟨rfl,?_⟩
    show Below _ _ _
    rw [HBe.out]
    exact HF.out
end Go.Proofs.YtkomhemjodbkpaaGreatDoor
