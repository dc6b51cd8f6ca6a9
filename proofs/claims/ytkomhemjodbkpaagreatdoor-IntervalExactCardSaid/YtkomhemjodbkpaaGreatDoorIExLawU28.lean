import Derived.Test.YtkomhemjodbkpaaGreatDoorIExLawU27
import Derived.Test.YtkomhemjodbkpaaGreatDoorIExLawU13
import Derived.Test.YtkomhemjodbkpaaGreatDoorIExLawU19
import Derived.Deep.RegionHeld3
import Derived.Test.YtkomhemjodbkpaaGreatDoorIExLawU21
import Derived.Test.YtkomhemjodbkpaaGreatDoorIExLawU8
import Derived.Test.YtkomhemjodbkpaaGreatDoorIExLawU22
import Derived.Test.YtkomhemjodbkpaaGreatDoorIExLawU25
import Derived.Test.YtkomhemjodbkpaaGreatDoorIExLawU24
import Derived.Test.YtkomhemjodbkpaaGreatDoorIExLawU4
import Derived.Test.YtkomhemjodbkpaaGreatDoorIExLawU17
import Derived.Test.YtkomhemjodbkpaaGreatDoorIExLawU14
import Derived.Test.YtkomhemjodbkpaaGreatDoorIExLawU3
import Derived.Test.YtkomhemjodbkpaaGreatDoorIExLawU10
import Derived.Test.YtkomhemjodbkpaaGreatDoorIExLawU23
import Derived.RegionTactic
import Derived.StillTail
namespace Go.Proofs.YtkomhemjodbkpaaGreatDoor
open Go Go.RowKit
set_option maxRecDepth 100000 in
set_option maxHeartbeats 4000000 in
theorem refRound_any (u:Value) (d:Dy) (mode:Int) (w:World) (hu:Dl w u d) (hT:Table w) :
    Calls Tryz.prog 108 #[u,.int .i64 mode] w fun e w'=>e=.returned (.int .u64 ((frdF d mode:Nat):Int))∧Ext w w':=by
  obtain ⟨R,hR⟩:∃ R,frdF d mode=R:=⟨_,rfl⟩
  rw [hR]
  have HR:=Lib.hid hR
  clear hR
  have hu0:=hu
  obtain ⟨ub,un,uo,uk,uc,_,uf,rfl,-⟩:=hu0
  have HTw:=Lib.hid hT
  go_enter Tryz.func108,Tryz.ntmps108
  go_upto_region 1 with fail
  obtain ⟨W,hW,hB,hbx,hz⟩:=dbox_new w ub un uo uk uc uf
  rw [←hW]
  clear hW
  have hu:=hu.ext hB
  have HT:=Lib.hid (hT.below hB)
  generalize hBe:w.heap.size=B at *
  have HBe:=Lib.hid hBe;clear hBe hT
  have k0:=hbx.c0
  have k1:=hbx.c1
  have k2:=hbx.c2
  have k3:=hbx.c3
  go_wp2_with fail
  refine (refDNorm_any _ _ _ hu HT.out).mono ?_
  rintro e w1 ⟨r1,rfl,hr,hw1⟩
  have bx:=hbx.below hw1
  obtain ⟨hB1,hB1'⟩:=bnext hB (by omega) hw1
  have hz1:=hw1.size
  obtain ⟨xb,xn,xo,xk,xc,xe,rfl⟩:=hr.parts
  clear k0 k1 k2 k3 hbx hB hw1 hu HT
  have k0:=bx.c0
  have k1:=bx.c1
  have k2:=bx.c2
  have k3:=bx.c3
  have f0:=bx.f 0
  have f1:=bx.f 1
  have f2:=bx.f 2
  have f3:=bx.f 3
  go_upto_region 2 with fail
  have ho:=only_set4 w1 B (.bool xb) (.bool xn) (.slice xo xk xc) (.int .i64 xe)
  have hr:=hr.only_dbox bx ho
  have bx:=bx.stored xb xn xo xk xc xe
  have hB2:=hB1.trans (ho.below (B:=B) (Nat.le_refl _))
  have hz2:=ho.size
  have hz3:B+1≤((((w1.setCell ⟨B,0,none⟩ (.bool xb)).setCell ⟨B,1,none⟩ (.bool xn)).setCell ⟨B,2,none⟩ (.slice xo xk xc)).setCell ⟨B,3,none⟩ (.int .i64 xe)).heap.size:=by omega
  have hTf:=HTw.out.below (w':=(((w1.setCell ⟨B,0,none⟩ (.bool xb)).setCell ⟨B,1,none⟩ (.bool xn)).setCell ⟨B,2,none⟩ (.slice xo xk xc)).setCell ⟨B,3,none⟩ (.int .i64 xe)) (by rw [HBe.out];exact hB2)
  clear k0 k1 k2 k3 f0 f1 f2 f3 hB1 ho hz2
  generalize (((w1.setCell ⟨B,0,none⟩ (.bool xb)).setCell ⟨B,1,none⟩ (.bool xn)).setCell ⟨B,2,none⟩ (.slice xo xk xc)).setCell ⟨B,3,none⟩ (.int .i64 xe)=w2 at *
  have HT:=Lib.hid hTf;clear hTf
  have hE2:Ext w w2:=by show Below _ _ _;rw [HBe.out];exact hB2
  have k0:=bx.c0
  have k1:=bx.c1
  have k2:=bx.c2
  have k3:=bx.c3
  cases d with
  | none =>
    obtain rfl:=dn_none hr
    clear hr
    obtain rfl:R=9221120237041090560:=HR.out.symm
    clear HR
    go_wp2
    go_ret
    exact ⟨rfl,hE2⟩
  | some p =>
    obtain ⟨m,f⟩:=p
    obtain ⟨rfl,rfl,hm⟩:=dn_some hr
    have HNEG:=Lib.hid hm.neg
    have hnx:=nd_blen hr.1
    simp only [dm,dx,Option.getD_some] at hnx
    obtain ⟨hnx,hx0,hx1⟩:=hnx
    have gm:=bn_bg_of hm (by omega)
    clear hr hm
    go_wp2_with fail
    refine (refSign_any _ _ _ _ _ _ gm).mono ?_
    rintro e w3 ⟨rfl,hw3⟩
    have gm:=gm.below hw3
    have bx:=bx.below hw3
    have hE3:=Ext.trans hE2 hw3
    have HT3:=Lib.hid (fun W (hW:Ext w3 W)=>(HT.out.below hw3).below hW)
    clear k0 k1 k2 k3 hB2 hE2
    have k0:=bx.c0
    have k1:=bx.c1
    have k2:=bx.c2
    have k3:=bx.c3
    by_cases h0:m=0
    · have hs0:(sgn3 m 0 == 0)=true:=by simp [sgn3,h0]
      have hV:R=0:=by rw [←HR.out];show rz m xe mode=0;unfold rz;rw [if_pos h0]
      subst hV
      clear h0 HR
      go_wp2
      go_ret
      exact ⟨rfl,hE3⟩
    · have hs0:(sgn3 m 0 == 0)=false:=by
        have:sgn3 m 0≠0:=fun h=>h0 (sgn3_zero h)
        simpa using this
      have HV:Hid (flr xn m.natAbs xe false mode=R):=Lib.hid (by
        rw [←HR.out]
        show _=rz m xe mode
        unfold rz rnd
        rw [if_neg h0,HNEG.out])
      have HNA:=Lib.hid (show m.natAbs≠0 by omega)
      clear h0 HR
      have HC:=Lib.hid (show ∀ wx,Ext w3 wx→(wx.cell? ⟨B,0,none⟩=some (.bool false)∧wx.cell? ⟨B,1,none⟩=some (.bool xn)∧wx.cell? ⟨B,2,none⟩=some (.slice xo xk xc)∧wx.cell? ⟨B,3,none⟩=some (.int .i64 xe)) from fun wx h=>⟨(bx.ext h).c0,(bx.ext h).c1,(bx.ext h).c2,(bx.ext h).c3⟩)
      have ex0:Ext w3 w3.drew:=(Below.refl _ _).drew
      go_upto_region 6 with fail
      go_region_held3 (fun wx=>(wx.cell? ⟨B,0,none⟩=some (.bool false)∧wx.cell? ⟨B,1,none⟩=some (.bool xn)∧wx.cell? ⟨B,2,none⟩=some (.slice xo xk xc)∧wx.cell? ⟨B,3,none⟩=some (.int .i64 xe)))
        (first | exact HC.out _ (by assumption))
        (first
          | (go_at_call 144;refine (refAbs_any _ _ _ _ _ _ (by exact gm.drew)).mono ?_;rintro e w4 ⟨nr,ro,l,cr,rfl,hq,-,hw4⟩;have ex1:Ext w3 w4:=ex0.trans hw4)
          | (go_at_call 145;refine (refRounded_any _ _ _ _ _ m.natAbs _ _ _ (bn_bg_of hq (by rw [Int.natAbs_natCast];omega)) HNA.out (by omega) (by omega) (by omega) (HT3.out _ ex1)).mono ?_;rw [HV.out];rintro e w5 ⟨rfl,hw5⟩;have ex2:Ext w3 w5:=ex1.trans hw5))
      have HF:=Lib.hid (Ext.trans hE3 ex2)
      go_wp2
      go_ret
      exact ⟨rfl,HF.out⟩
open Go.RowKit
set_option maxRecDepth 100000 in
theorem refPlus_any (f:Nat) (w:World):Calls Tryz.prog 42 #[.int .u64 (f:Int)] w fun e w'=>e=.returned (.int .u64 ((plainF f:Nat):Int))∧w=w':=by
  unfold plainF
  by_cases h:f=9223372036854775808
  · rw [if_pos h,h]
    go_enter Tryz.func42,Tryz.ntmps42
    go_wp2
    go_ret
    exact ⟨rfl,rfl⟩
  · rw [if_neg h]
    have hb:((f:Int) == 9223372036854775808)=false:=by rw [beq_eq_false_iff_ne];omega
    go_enter Tryz.func42,Tryz.ntmps42
    go_wp2
    go_ret
    exact ⟨rfl,rfl⟩
def sgN (i:Int) (d:Dy):Int:=if i≠0 then i else sgn3 (dm d) 0
def rnN (i:Int) (d:Dy) (mode:Int):Nat:=if i=1 then 9218868437227405312 else if i = -1 then 18442240474082181120 else plainF (frdF d mode)
set_option maxRecDepth 100000 in
set_option maxHeartbeats 4000000 in
theorem refSgN_any (v:Value) (i:Int) (d:Dy) (s:Int) (hs:sgN i d=s) (w:World) (hv:NumV w v i d) (hT:Table w) :
    Calls Tryz.prog 55 #[v] w fun e w'=>e=.returned (.int .i64 s)∧Ext w w':=by
  obtain ⟨vb,vn,vo,vk,vc,vf,rfl,hd⟩:=hv
  have HT:=Lib.hid hT
  clear hT
  unfold sgN at hs
  go_enter Tryz.func55,Tryz.ntmps55
  go_upto_region 1 with fail
  obtain ⟨W,hW,hB,hx,-⟩:=nbx_new w i vb vn vo vk vc vf
  rw [←hW]
  clear hW
  have HB:=Lib.hid hB
  have HT:=Lib.hid (HT.out.below hB)
  have hd:=hd.ext hB
  generalize w.heap.size=B at hx ⊢
  clear hB
  have x0:=hx.c0
  have x1:=hx.c1
  have x2:=hx.c2
  have x3:=hx.c3
  have x4:=hx.c4
  by_cases hi:i=0
  · have bi:(i != 0)=false:=by simp [hi]
    rw [if_neg (by simp [hi])] at hs
    have HS:=Lib.hid hs
    clear hs hi
    go_wp2_with fail
    refine (refDSign_any _ d _ hd.dl HT.out).mono ?_
    rintro e w1 ⟨rfl,hE⟩
    rw [HS.out]
    have HF:=Lib.hid (HB.out.trans hE)
    go_wp2
    go_ret
    exact ⟨rfl,HF.out⟩
  · have bi:(i != 0)=true:=by simp [hi]
    rw [if_pos hi] at hs
    subst hs
    clear hi
    go_wp2
    go_ret
    exact ⟨rfl,HB.out⟩
set_option maxRecDepth 100000 in
set_option maxHeartbeats 4000000 in
theorem refRnN_any (v:Value) (i:Int) (d:Dy) (mode:Int) (w:World) (hv:NumV w v i d) (hT:Table w) :
    Calls Tryz.prog 89 #[v,.int .i64 mode] w fun e w'=>e=.returned (.int .u64 ((rnN i d mode:Nat):Int))∧Ext w w':=by
  obtain ⟨vb,vn,vo,vk,vc,vf,rfl,hd⟩:=hv
  have HT:=Lib.hid hT
  clear hT
  obtain ⟨Q,hQ⟩:∃ Q:Int,((rnN i d mode:Nat):Int)=Q:=⟨_,rfl⟩
  rw [hQ]
  unfold rnN at hQ
  have HQ:=Lib.hid hQ
  clear hQ
  go_enter Tryz.func89,Tryz.ntmps89
  go_upto_region 1 with fail
  obtain ⟨W,hW,hB,hx,-⟩:=nbx_new w i vb vn vo vk vc vf
  rw [←hW]
  clear hW
  have HB:=Lib.hid hB
  have HT:=Lib.hid (HT.out.below hB)
  have hd:=hd.ext hB
  generalize w.heap.size=B at hx ⊢
  clear hB
  have x0:=hx.c0
  have x1:=hx.c1
  have x2:=hx.c2
  have x3:=hx.c3
  have x4:=hx.c4
  by_cases h1:i=1
  · have b1:(i == 1)=true:=by simp [h1]
    obtain rfl:9218868437227405312=Q:=by rw [←HQ.out,if_pos h1];rfl
    clear h1 HQ
    go_wp2
    go_ret
    exact ⟨rfl,HB.out⟩
  · have b1:(i == 1)=false:=by simp [h1]
    by_cases h2:i = -1
    · have b2:(i == -1)=true:=by simp [h2]
      obtain rfl:18442240474082181120=Q:=by rw [←HQ.out,if_neg h1,if_pos h2];rfl
      clear h1 h2 HQ
      go_wp2
      go_ret
      exact ⟨rfl,HB.out⟩
    · have b2:(i == -1)=false:=by simp [h2]
      have HR:=Lib.hid (show ((plainF (frdF d mode):Nat):Int)=Q by rw [←HQ.out,if_neg h1,if_neg h2])
      clear h1 h2 HQ
      go_wp2_with fail
      refine (refRound_any _ d mode _ hd.dl HT.out).mono ?_
      rintro e w1 ⟨rfl,hE⟩
      have HF:=Lib.hid (HB.out.trans hE)
      clear x0 x1 x2 x3 x4
      go_wp2_with fail
      refine (refPlus_any _ _).mono ?_
      rintro e w2 ⟨rfl,rfl⟩
      go_wp2
      go_ret
      exact ⟨by rw [←HR.out];rfl,HF.out⟩
theorem nbx_oi (w:World) (i:Int) (bb nb:Bool) (ao:Option Addr) (n ca:Nat) (e:Int) (j:Int) (cb mb:Bool) (bo:Option Addr) (m cc:Nat) (f:Int) :
    ∃ W,W=((w.alloc (.cells #[.int .i64 i,.bool bb,.bool nb,.slice ao n ca,.int .i64 e] 56)).alloc (.cells #[.int .i64 j,.bool cb,.bool mb,.slice bo m cc,.int .i64 f] 56)).alloc (.cells #[.int .u64 0,.int .u64 0] 25)∧Below w.heap.size w W∧NBx W w.heap.size i bb nb ao n ca e∧NBx W (w.heap.size+1) j cb mb bo m cc f∧IBox W (w.heap.size+1+1) 0 0∧w.heap.size+1+1+1≤W.heap.size:=by
  refine ⟨_,rfl,(((Below.refl _ w).alloc (Nat.le_refl _) _).alloc (by simp) _).alloc (by simp;omega) _,?_,?_,?_,by simp⟩
  · exact ((NBx.new w i bb nb ao n ca e).below ((Below.refl _ _).alloc (Nat.le_refl _) _)).below ((Below.refl _ _).alloc (Nat.le_refl _) _)
  · have:=(NBx.new (w.alloc (.cells #[.int .i64 i,.bool bb,.bool nb,.slice ao n ca,.int .i64 e] 56)) j cb mb bo m cc f).below ((Below.refl _ _).alloc (Nat.le_refl _) (.cells #[.int .u64 0,.int .u64 0] 25))
    simpa using this
  · have:=IBox.new ((w.alloc (.cells #[.int .i64 i,.bool bb,.bool nb,.slice ao n ca,.int .i64 e] 56)).alloc (.cells #[.int .i64 j,.bool cb,.bool mb,.slice bo m cc,.int .i64 f] 56)) 0 0
    simpa using this
set_option maxRecDepth 100000 in
set_option maxHeartbeats 8000000 in
theorem refOutward_any (u v:Value) (i j:Int) (d d':Dy) (w:World) (hu:NumV w u i d) (hv:NumV w v j d') (hT:Table w) :
    Calls Tryz.prog 46 #[u,v] w fun e w'=>e=.returned (.agg #[.int .u64 ((rnN i d 1:Nat):Int),.int .u64 ((rnN j d' 2:Nat):Int)])∧Ext w w':=by
  have CU:=Lib.hid (fun wx (h:Ext w wx)=>refRnN_any u i d 1 wx (hu.ext h) (hT.below h))
  have CV:=Lib.hid (fun wx (h:Ext w wx)=>refRnN_any v j d' 2 wx (hv.ext h) (hT.below h))
  obtain ⟨ub,un,uo,uk,uc,uf,rfl,-⟩:=hu
  obtain ⟨vb,vn,vo,vk,vc,vf,rfl,-⟩:=hv
  obtain ⟨x,hx⟩:∃ x:Int,((rnN i d 1:Nat):Int)=x:=⟨_,rfl⟩
  obtain ⟨y,hy⟩:∃ y:Int,((rnN j d' 2:Nat):Int)=y:=⟨_,rfl⟩
  rw [hx] at CU
  rw [hy] at CV
  rw [hx,hy]
  clear hx hy hT
  go_enter Tryz.func46,Tryz.ntmps46
  go_upto_region 1 with fail
  obtain ⟨W,hW,hB,hx,hy,hbx,hsz⟩:=nbx_oi w i ub un uo uk uc uf j vb vn vo vk vc vf
  rw [←hW]
  clear hW
  have HE:=Lib.hid (show Ext w W from hB)
  generalize hBe:w.heap.size=B at *
  have HBe:=Lib.hid hBe
  have HB:Hid (Below B w W):=Lib.hid hB
  clear hBe hB
  have HC:=Lib.hid (show ∀ wx,Ext W wx→((wx.cell? ⟨B,0,none⟩=some (.int .i64 i)∧wx.cell? ⟨B,1,none⟩=some (.bool ub)∧wx.cell? ⟨B,2,none⟩=some (.bool un)∧wx.cell? ⟨B,3,none⟩=some (.slice uo uk uc)∧wx.cell? ⟨B,4,none⟩=some (.int .i64 uf))∧(wx.cell? ⟨(B+1),0,none⟩=some (.int .i64 j)∧wx.cell? ⟨(B+1),1,none⟩=some (.bool vb)∧wx.cell? ⟨(B+1),2,none⟩=some (.bool vn)∧wx.cell? ⟨(B+1),3,none⟩=some (.slice vo vk vc)∧wx.cell? ⟨(B+1),4,none⟩=some (.int .i64 vf)))∧IBox wx (B+1+1) 0 0 from fun wx h=>⟨⟨⟨(hx.below h).c0,(hx.below h).c1,(hx.below h).c2,(hx.below h).c3,(hx.below h).c4⟩,(hy.below h).c0,(hy.below h).c1,(hy.below h).c2,(hy.below h).c3,(hy.below h).c4⟩,hbx.below h⟩)
  obtain ⟨⟨⟨a0,a1,a2,a3,a4⟩,b0,b1,b2,b3,b4⟩,hz⟩:=HC.out W (Ext.refl _)
  clear hx hy hbx
  have z0:=hz.c0
  have z1:=hz.c1
  have z2:=hz.f 0
  have z3:=hz.f 1
  have st:Ext W W.drew:=(Below.refl _ _).drew
  first | (go_region_with (first
      | (go_at_call 89;(with_reducible refine (CU.out _ (Ext.trans HE.out (by assumption))).mono ?_);rintro r wn ⟨rfl,hE⟩;have st:Ext W wn:=Ext.trans (by assumption) hE;clear hE;obtain ⟨⟨⟨a0,a1,a2,a3,a4⟩,b0,b1,b2,b3,b4⟩,hz⟩:=HC.out wn st;have z0:=hz.c0;have z1:=hz.c1;have z2:=hz.f 0;have z3:=hz.f 1)
      | (go_at_call 89; (with_reducible refine (CV.out _ (Ext.trans HE.out (by assumption))).mono ?_); rintro r wk ⟨rfl, hE⟩; have stk : Ext W wk := Ext.trans (by assumption) hE; clear hE; obtain ⟨⟨⟨a0, a1, a2, a3, a4⟩, b0, b1, b2, b3, b4⟩, hz⟩ := HC.out wk stk; have z0 := hz.c0; have z1 := hz.c1; have z2 := hz.f 0; have z3 := hz.f 1))) | fail "no walk"
  all_goals
    have hst:=hz.stored x y
    have y0:=hst.c0
    have y1:=hst.c1
    have HF:=Lib.hid ((HB.out.trans (Below.mono stk (by omega))).trans ((only_iset2 wk (B+1+1) (.int .u64 x) (.int .u64 y)).below (by omega)))
    clear hst
    go_wp2
    refine bodyPost_ret (v:=.agg #[.int .u64 x,.int .u64 y]) (by simp [results,Tryz.results46,go_sem,y0,y1]) rfl ⟨rfl,?_⟩
    show Below _ _ _
    rw [HBe.out]
    exact HF.out
open Go.RowKit
structure EnclIs (d:Dy) (lo hi near:Nat) (x:Int) (ok:Bool) (y:Int) (is:Bool):Prop where
  cx:DcmpIs (fdy lo) d x ok
  cy:DcmpIs d (fdy hi) y is
  nlo:nanB lo=false
  nhi:nanB hi=false
  xle:x≤0
  yle:y≤0
  noLo:ok=false→lo=18442240474082181120
  noHi:is=false→hi=9218868437227405312
  same:(ok=true∧x=0∨is=true∧y=0)→lo=hi∧near=lo
  next:¬ (ok=true∧x=0∨is=true∧y=0)→FcmpOut (fupF lo) hi 0 true∧(near=lo∨near=hi)
theorem plain_eq {x y:Nat} (lx:x<18446744073709551616) (ly:y<18446744073709551616) (h:frank x=frank y):plainF x=plainF y:=by
  unfold frank fneg fmag at h
  unfold plainF
  by_cases h1:9223372036854775808≤x <;> by_cases h2:9223372036854775808≤y <;> simp only [h1,h2,decide_true,decide_false,if_true,if_false,Bool.false_eq_true] at h <;> split <;> split <;> omega
theorem num_fin {f:Nat} (nf:nanB f=false) (h1:f≠9218868437227405312) (h2:f≠18442240474082181120) (lf:f<18446744073709551616):numI f=0∧numD f=fdy f∧finB f=true:=by
  unfold numI numD
  rw [if_neg h1,if_neg h2,if_neg h1,if_neg h2]
  exact ⟨rfl,rfl,fin_of lf nf h1 h2⟩
theorem sgn_dm {f:Nat} (hf:finB f=true):sgn3 (dm (fdy f)) 0=sgn3 (frank f) 0:=by
  obtain ⟨m,e,h1,h2,h3,h4⟩:=fdy_is hf
  have hp:(0:Int)<2^(e+(1074:Nat)).toNat:=Int.pow_pos (by omega)
  obtain ⟨s1,s2⟩:=fzs_sign (fin_nan hf)
  rw [h4] at s1 s2
  rw [h1]
  show sgn3 m 0=_
  generalize (2:Int)^(e+(1074:Nat)).toNat=P at *
  have k1:m<0→m*P<0:=fun h=>Int.mul_neg_of_neg_of_pos h hp
  have k2:0<m→0<m*P:=fun h=>Int.mul_pos h hp
  have k3:m=0→m*P=0:=fun h=>by rw [h,Int.zero_mul]
  generalize m*P=Q at *
  unfold sgn3
  split <;> split <;> (try split) <;> (try split) <;> omega
theorem sgN_num {f:Nat} (lf:f<18446744073709551616) (nf:nanB f=false):sgN (numI f) (numD f)=sgn3 (frank f) 0:=by
  by_cases h1:f=9218868437227405312
  · rw [h1];decide +kernel
  · by_cases h2:f=18442240474082181120
    · rw [h2];decide +kernel
    · obtain ⟨e1,e2,hf⟩:=num_fin nf h1 h2 lf
      unfold sgN
      rw [e1,e2,if_neg (by omega),sgn_dm hf]
theorem rnN_num {f:Nat} (lf:f<18446744073709551616) (nf:nanB f=false) (mode:Int):rnN (numI f) (numD f) mode=plainF f:=by
  by_cases h1:f=9218868437227405312
  · rw [h1];rfl
  · by_cases h2:f=18442240474082181120
    · rw [h2];rfl
    · obtain ⟨e1,e2,hf⟩:=num_fin nf h1 h2 lf
      unfold rnN
      rw [e1,e2,if_neg (by omega),if_neg (by omega),frd_is (fdy_is hf)]
      exact plain_eq (rz_facts _ _ _).2 lf (rz_self hf lf mode)
open Go
def regOf (n:Nat):Code→Option Code
  | .region id ops d=>if id=n then some (.region id ops d) else none
  | .seq a b=>match regOf n a with
    | some c=>some c
    | none=>regOf n b
  | .cond _ a b=>match regOf n a with
    | some c=>some c
    | none=>regOf n b
  | .block _ c=>regOf n c
  | .loop c=>regOf n c
  | .scope c=>regOf n c
  | _=>none
section
variable {P:Program} {ops:Array Oper} {Q:Exit→Act→World→Prop} {md:Region.Mode}
theorem ready_dep {i j:Nat} {listed:Array Bool} (hi:i∈Region.ready md ops listed) (h:Region.waitsFor md ops i j=true):listed.getD j false=true:=by
  obtain ⟨oj,hj,e,he,hb,hon⟩:=Region.waitsFor_spec h
  obtain ⟨_,o,ho,hall⟩:=mem_ready.1 hi
  rw [hj] at ho
  cases ho
  rw [←hon]
  exact hall e he hb
theorem ready_lt {i:Nat} {listed:Array Bool} (hi:i∈Region.ready md ops listed):i<ops.size:=by
  obtain ⟨_,o,ho,_⟩:=mem_ready.1 hi
  exact (Array.getElem?_eq_some_iff.1 ho).1
def Region.ordered (md:Region.Mode) (ops:Array Oper):Bool:=(List.range ops.size).all fun j=>match ops[j]? with
  | some o=>o.after.all fun e=>!Region.binds md e||decide (e.on<j)
  | none=>true
theorem all_listed {listed:Array Bool} (hs:listed.size=ops.size) (ho:Region.ordered md ops=true) (hr:Region.ready md ops listed = []):∀ j,j<ops.size→listed.getD j false=true:=by
  intro j
  induction j using Nat.strongRecOn with
  | _ j ih =>
    intro hj
    cases hl:listed.getD j false with
    | true=>rfl
    | false =>
      exfalso
      have hm:j∈Region.ready md ops listed:=by
        refine mem_ready.2 ⟨getD_in (by omega) hl,ops[j],Array.getElem?_eq_getElem hj,fun e he hb=>?_⟩
        have h1:=List.all_eq_true.1 ho j (List.mem_range.2 hj)
        rw [Array.getElem?_eq_getElem hj] at h1
        have h2:=Array.all_eq_true_iff_forall_mem.1 h1 e he
        rw [hb] at h2
        have h3:e.on<j:=by simpa using h2
        exact ih e.on h3 (by omega)
      rw [hr] at hm
      cases hm
def Region.left (n:Nat) (listed:Array Bool):Nat:=(List.range n).countP fun j=>!listed.getD j false
theorem countP_lt {α:Type} {p q:α→Bool} {l:List α} (h:∀ x∈l,q x=true→p x=true) (x:α) (hx:x∈l) (hp:p x=true) (hq:q x=false):l.countP q<l.countP p:=by
  induction l with
  | nil=>cases hx
  | cons y l ih =>
    rw [List.countP_cons,List.countP_cons]
    rcases List.mem_cons.1 hx with rfl | hx
    · have h1:l.countP q≤l.countP p:=List.countP_mono_left fun z hz=>h z (List.mem_cons_of_mem _ hz)
      rw [hp,hq]
      simp
      omega
    · have h1:=ih (fun z hz=>h z (List.mem_cons_of_mem _ hz)) hx
      have h2:=h y List.mem_cons_self
      cases hqy:q y <;> cases hpy:p y <;> simp [hqy,hpy] at h2 ⊢ <;> omega
theorem left_set {i n:Nat} {listed:Array Bool} (hi:i<n) (hs:listed.size=n) (hl:listed.getD i false=false):Region.left n (listed.setIfInBounds i true)<Region.left n listed:=by
  refine countP_lt (fun j _ h=>?_) i (List.mem_range.2 hi) (by simp only [hl];rfl) ?_
  · by_cases hij:i=j
    · subst hij;simp only [hl];rfl
    · rw [getD_set_ne false hij] at h;exact h
  · simp only [Bool.not_eq_false']
    simp [hs,hi]
theorem wpAny_inv {I:Array Bool→Act→World→Prop}
    (hstep:∀ i listed a w,listed.size=ops.size→i∈Region.ready md ops listed→I listed a w→wpOp P ops Q i (I (listed.setIfInBounds i true)) a w)
    (hend:∀ listed a w,(∀ j,j<ops.size→listed.getD j false=true)→I listed a w→Q .normal a w) (ho:Region.ordered md ops=true) :
    ∀ fuel listed a w,listed.size=ops.size→Region.left ops.size listed≤fuel→I listed a w→wpAny P md ops Q fuel listed a w:=by
  intro fuel
  induction fuel with
  | zero =>
    intro listed a w hs hl hI
    have hall:∀ j,j<ops.size→listed.getD j false=true:=by
      intro j hj
      cases h:listed.getD j false with
      | true=>rfl
      | false =>
        exfalso
        have:=left_set hj hs h
        omega
    refine ⟨?_,hend listed a w hall hI⟩
    apply List.eq_nil_iff_forall_not_mem.2
    intro j hj
    have h1:=(mem_ready.1 hj).1
    have h2:=hall j (ready_lt hj)
    rw [getD_both h1] at h2
    cases h2
  | succ fuel ih =>
    intro listed a w hs hl hI
    refine ⟨fun hr=>hend listed a w (all_listed hs ho hr) hI,fun i hi=>?_⟩
    refine wpOp_mono (fun a' w' h=>ih _ a' w' (by simpa using hs) ?_ h) (hstep i listed a w hs hi hI)
    have:=left_set (ready_lt hi) hs (getD_both (mem_ready.1 hi).1)
    omega
end
open Go.RowKit
theorem ext_of_alloc (w:World) (o:Obj):Ext w (w.alloc o):=(Below.refl _ _).alloc (Nat.le_refl _) o
theorem NBx.ext {w w':World} {g:Nat} {i:Int} {bb nb:Bool} {ao:Option Addr} {n ca:Nat} {f:Int} (h:NBx w g i bb nb ao n ca f) (hE:Ext w w'):NBx w' g i bb nb ao n ca f:=h.below hE
theorem NBx.only {w w':World} {g h:Nat} {i:Int} {bb nb:Bool} {ao:Option Addr} {n ca:Nat} {f:Int} (hx:NBx w g i bb nb ao n ca f) (ho:Only h w w') (hne:g≠h):NBx w' g i bb nb ao n ca f:=by
  unfold NBx
  rw [ho.block g hne]
  exact hx
open Go Go.RowKit
def upd (t:Nat→Value) (d:Nat) (v:Value):Nat→Value:=fun k=>if k=d then v else t k
def updN (g:Nat→Nat) (k v:Nat):Nat→Nat:=fun l=>if l=k then v else g l
theorem updN_at (g:Nat→Nat) (k v:Nat):updN g k v k=v:=if_pos rfl
theorem updN_ne (g:Nat→Nat) {k l:Nat} (v:Nat) (h:l≠k):updN g k v l=g l:=if_neg h
theorem upd_at (t:Nat→Value) (d:Nat) (v:Value):upd t d v d=v:=if_pos rfl
theorem upd_ne (t:Nat→Value) {d k:Nat} (v:Value) (h:k≠d):upd t d v k=t k:=if_neg h
theorem upd_self {t:Nat→Value} {d:Nat} {v:Value} (h:t d=v):t=upd t d v:=by
  funext k
  unfold upd
  split
  · next e=>rw [e];exact h
  · rfl
theorem upd_self2 {t:Nat→Value} {d e:Nat} {u v:Value} (h:t d=v) (k:t e=u):t=upd (upd t d v) e u:=by
  rw [←upd_self h];exact upd_self k
def NBa (w:World) (g:Nat):Prop:=∃ i bb nb ao n ca f,NBx w g i bb nb ao n ca f
def NBv (w:World) (g:Nat) (v:Value):Prop:=∃ i bb nb ao n ca f,v=.agg #[.int .i64 i,.bool bb,.bool nb,.slice ao n ca,.int .i64 f]∧NBx w g i bb nb ao n ca f
theorem NBa.lt {w:World} {g:Nat} (h:NBa w g):g<w.heap.size:=by
  obtain ⟨i,bb,nb,ao,n,ca,f,h⟩:=h
  exact h.lt
theorem NBa.ext {w w':World} {g:Nat} (h:NBa w g) (hE:Ext w w'):NBa w' g:=by
  obtain ⟨i,bb,nb,ao,n,ca,f,h⟩:=h
  exact ⟨i,bb,nb,ao,n,ca,f,h.ext hE⟩
theorem NBa.only {w w':World} {g k:Nat} (h:NBa w g) (ho:Only k w w') (hne:g≠k):NBa w' g:=by
  obtain ⟨i,bb,nb,ao,n,ca,f,h⟩:=h
  exact ⟨i,bb,nb,ao,n,ca,f,h.only ho hne⟩
theorem NBv.ext {w w':World} {g:Nat} {v:Value} (h:NBv w g v) (hE:Ext w w'):NBv w' g v:=by
  obtain ⟨i,bb,nb,ao,n,ca,f,e,h⟩:=h
  exact ⟨i,bb,nb,ao,n,ca,f,e,h.ext hE⟩
theorem NBv.only {w w':World} {g k:Nat} {v:Value} (h:NBv w g v) (ho:Only k w w') (hne:g≠k):NBv w' g v:=by
  obtain ⟨i,bb,nb,ao,n,ca,f,e,h⟩:=h
  exact ⟨i,bb,nb,ao,n,ca,f,e,h.only ho hne⟩
theorem NBv.any {w:World} {g:Nat} {v:Value} (h:NBv w g v):NBa w g:=by
  obtain ⟨i,bb,nb,ao,n,ca,f,e,h⟩:=h
  exact ⟨i,bb,nb,ao,n,ca,f,h⟩
structure Stays (F:Value→World→Prop):Prop where
  ext:∀ v w w',F v w→Ext w w'→F v w'
  only:∀ v w w' g,F v w→NBa w g→Only g w w'→F v w'
theorem NumV.only_nba {w w':World} {v:Value} {i:Int} {d:Dy} {g:Nat} (h:NumV w v i d) (hg:NBa w g) (ho:Only g w w'):NumV w' v i d:=by
  obtain ⟨bb,nb,ao,n,ca,e,h1,h2⟩:=h
  obtain ⟨j,cb,mb,bo,m,cc,f,hg⟩:=hg
  exact ⟨bb,nb,ao,n,ca,e,h1,h2.only_nbx hg ho⟩
theorem Stays.num (i:Int) (d:Dy):Stays (fun v w=>NumV w v i d):=⟨fun _ _ _ h hE=>h.ext hE,fun _ _ _ _ h hg ho=>h.only_nba hg ho⟩
theorem Stays.eq (u:Value):Stays (fun v _=>v=u):=⟨fun _ _ _ h _=>h,fun _ _ _ _ h _ _=>h⟩
structure VRegion (P:Program) (ops:Array Oper) (Q:Exit→Act→World→Prop) (V:World) (fr:(Nat→Value)→Act) (m n:Nat) (dst vs src:Nat→Nat) (F:Nat→Value→World→Prop):Prop where
  size:ops.size=m+n+n
  ord:Region.ordered .any ops=true
  dd:∀ i,i<m→∀ j,j<m→dst i=dst j→i=j
  dv:∀ i,i<m→∀ k,k<n→dst i≠vs k
  vv:∀ k,k<n→∀ l,l<n→vs k=vs l→k=l
  sd:∀ k,k<n→∃ j,j<m∧src k=dst j∧Region.waitsFor .any ops (m+n+k) j=true
  sa:∀ k,k<n→Region.waitsFor .any ops (m+n+k) (m+k)=true
  stays:∀ j,j<m→Stays (F j)
  step:∀ j,j<m→∀ t w,Ext V w→(∀ i,i<m→Region.waitsFor .any ops j i=true→F i (t (dst i)) w)→∀ K:Act→World→Prop,
    (∀ x w',Ext w w'→F j x w'→K (fr (upd t (dst j) x)) w')→wpOp P ops Q j K (fr t) w
  alloc:∀ k,k<n→∀ t w (K:Act→World→Prop),K (fr (upd t (vs k) (.pointer (some ⟨w.heap.size,0,none⟩)))) (w.alloc (.cells #[.int .i64 0,.bool false,.bool false,.slice none 0 0,.int .i64 0] 56))→wpOp P ops Q (m+k) K (fr t) w
  store:∀ k,k<n→∀ t w (K:Act→World→Prop) g i bb nb ao N ca f,t (vs k)=.pointer (some ⟨g,0,none⟩)→t (src k)=.agg #[.int .i64 i,.bool bb,.bool nb,.slice ao N ca,.int .i64 f]→NBa w g →
    K (fr t) (((((w.setCell ⟨g,0,none⟩ (.int .i64 i)).setCell ⟨g,1,none⟩ (.bool bb)).setCell ⟨g,2,none⟩ (.bool nb)).setCell ⟨g,3,none⟩ (.slice ao N ca)).setCell ⟨g,4,none⟩ (.int .i64 f))→wpOp P ops Q (m+n+k) K (fr t) w
  isnum:∀ k j,k<n→j<m→src k=dst j→∀ v w,F j v w→∃ i bb nb ao N ca f,v=.agg #[.int .i64 i,.bool bb,.bool nb,.slice ao N ca,.int .i64 f]
def VInv (V:World) (fr:(Nat→Value)→Act) (m n:Nat) (dst vs src:Nat→Nat) (F:Nat→Value→World→Prop) (listed:Array Bool) (a:Act) (w:World):Prop :=
  ∃ (t:Nat→Value) (g:Nat→Nat),a=fr t∧Ext V w∧(∀ j,j<m→listed.getD j false=true→F j (t (dst j)) w) ∧
    (∀ k,k<n→listed.getD (m+k) false=true→t (vs k)=.pointer (some ⟨g k,0,none⟩)∧V.heap.size≤g k∧NBa w (g k)) ∧
    (∀ k l,k<n→l<n→k≠l→listed.getD (m+k) false=true→listed.getD (m+l) false=true→g k≠g l) ∧
    (∀ k,k<n→listed.getD (m+n+k) false=true→listed.getD (m+k) false=true∧(∀ j,j<m→src k=dst j→listed.getD j false=true)∧NBv w (g k) (t (src k)))
theorem listed_set {listed:Array Bool} {i j:Nat} (h:(listed.setIfInBounds i true).getD j false=true):j=i∨listed.getD j false=true:=by
  by_cases hij:i=j
  · exact Or.inl hij.symm
  · rw [getD_set_ne false hij] at h;exact Or.inr h
theorem region_vars {P:Program} {ops:Array Oper} {Q:Exit→Act→World→Prop} {V:World} {fr:(Nat→Value)→Act} {m n:Nat} {dst vs src:Nat→Nat} {F:Nat→Value→World→Prop} (R:VRegion P ops Q V fr m n dst vs src F) (t0:Nat→Value) (w:World) (hw:Ext V w)
    (hend:∀ (t:Nat→Value) (g:Nat→Nat) w',Ext V w'→(∀ j,j<m→F j (t (dst j)) w')→(∀ k,k<n→t (vs k)=.pointer (some ⟨g k,0,none⟩)∧V.heap.size≤g k∧NBv w' (g k) (t (src k)))→(∀ k l,k<n→l<n→k≠l→g k≠g l)→Q .normal (fr t) w') :
    wpAny P .any ops Q ops.size (Array.replicate ops.size false) (fr t0) w:=by
  refine wpAny_inv (I:=VInv V fr m n dst vs src F) ?_ ?_ R.ord _ _ _ _ (by simp) ?_ ?_
  · rintro i listed a wx hs hi ⟨t,g,rfl,hE,h1,h2,h3,h4⟩
    have hlt:=ready_lt hi
    have hun:=getD_both (mem_ready.1 hi).1
    rw [R.size] at hlt
    by_cases c1:i<m
    · refine R.step i c1 t wx hE (fun j hj hw=>h1 j hj (ready_dep hi hw)) _ ?_
      intro x w' hE' hF
      refine ⟨_,g,rfl,Ext.trans hE hE',?_,?_,?_,?_⟩
      · intro j hj hl
        by_cases hji:j=i
        · subst hji;rw [upd_at];exact hF
        · rw [upd_ne _ _ (fun e=>hji (R.dd j hj i c1 e))]
          rcases listed_set hl with h | h
          · exact absurd h hji
          · exact (R.stays j hj).ext _ _ _ (h1 j hj h) hE'
      · intro k hk hl
        rcases listed_set hl with h | h
        · omega
        · rw [upd_ne _ _ (fun e=>R.dv i c1 k hk e.symm)]
          obtain ⟨e1,e2,e3⟩:=h2 k hk h
          exact ⟨e1,e2,e3.ext hE'⟩
      · intro k l hk hl hkl a1 a2
        rcases listed_set a1 with h | h
        · omega
        · rcases listed_set a2 with h' | h'
          · omega
          · exact h3 k l hk hl hkl h h'
      · intro k hk hl
        rcases listed_set hl with h | h
        · omega
        · obtain ⟨a1,a3,a2⟩:=h4 k hk h
          refine ⟨getD_set_true a1,fun j hj e=>getD_set_true (a3 j hj e),?_⟩
          obtain ⟨j,hj,hsj,hwf⟩:=R.sd k hk
          by_cases hji:j=i
          · exfalso
            subst hji
            have:=a3 j hj hsj
            rw [hun] at this
            cases this
          · rw [hsj,upd_ne _ _ (fun e=>hji (R.dd j hj i c1 e)),←hsj]
            exact a2.ext hE'
    · by_cases c2:i<m+n
      · obtain ⟨k,rfl⟩:∃ k,i=m+k:=⟨i - m,by omega⟩
        have hk:k<n:=by omega
        refine R.alloc k hk t wx _ ?_
        have hEa:Ext wx (wx.alloc (.cells #[.int .i64 0,.bool false,.bool false,.slice none 0 0,.int .i64 0] 56)):=ext_of_alloc _ _
        have hnew:=NBx.new wx 0 false false none 0 0 0
        refine ⟨_,updN g k wx.heap.size,rfl,Ext.trans hE hEa,?_,?_,?_,?_⟩
        · intro j hj hl
          rw [upd_ne _ _ (R.dv j hj k hk)]
          rcases listed_set hl with h | h
          · omega
          · exact (R.stays j hj).ext _ _ _ (h1 j hj h) hEa
        · intro l hl hll
          by_cases hlk:l=k
          · subst hlk
            rw [upd_at,updN_at]
            exact ⟨rfl,Below.size hE,⟨_,_,_,_,_,_,_,hnew⟩⟩
          · rw [upd_ne _ _ (fun e=>hlk (R.vv l hl k hk e)),updN_ne _ _ hlk]
            rcases listed_set hll with h | h
            · omega
            · obtain ⟨e1,e2,e3⟩:=h2 l hl h
              exact ⟨e1,e2,e3.ext hEa⟩
        · intro l l' hl hl' hne a1 a2
          by_cases hlk:l=k
          · subst hlk
            rw [updN_at,updN_ne _ _ (Ne.symm hne)]
            rcases listed_set a2 with h | h
            · omega
            · have:=(h2 l' hl' h).2.2.lt
              omega
          · rw [updN_ne _ _ hlk]
            rcases listed_set a1 with h | h
            · omega
            · by_cases hlk':l'=k
              · subst hlk'
                rw [updN_at]
                have:=(h2 l hl h).2.2.lt
                omega
              · rw [updN_ne _ _ hlk']
                rcases listed_set a2 with h' | h'
                · omega
                · exact h3 l l' hl hl' hne h h'
        · intro l hl hll
          rcases listed_set hll with h | h
          · omega
          · obtain ⟨a1,a3,a2⟩:=h4 l hl h
            have hlk:l≠k:=by
              rintro rfl
              rw [hun] at a1
              cases a1
            refine ⟨getD_set_true a1,fun j hj e=>getD_set_true (a3 j hj e),?_⟩
            obtain ⟨j,hj,hsj,hwf⟩:=R.sd l hl
            rw [updN_ne _ _ hlk,hsj,upd_ne _ _ (R.dv j hj k hk),←hsj]
            exact a2.ext hEa
      · obtain ⟨k,rfl⟩:∃ k,i=m+n+k:=⟨i - m - n,by omega⟩
        have hk:k<n:=by omega
        obtain ⟨j,hj,hsj,hwf⟩:=R.sd k hk
        have hla:=ready_dep hi (R.sa k hk)
        obtain ⟨e1,e2,e3⟩:=h2 k hk hla
        have hF:=h1 j hj (ready_dep hi hwf)
        obtain ⟨iv,bb,nb,ao,N,ca,f,hv⟩:=R.isnum k j hk hj hsj _ _ hF
        rw [←hsj] at hv
        refine R.store k hk t wx _ (g k) iv bb nb ao N ca f e1 hv e3 ?_
        have hno:=e3
        obtain ⟨i0,bb0,nb0,ao0,n0,ca0,f0,hbx⟩:=e3
        have ho:=only_set5 wx (g k) (.int .i64 iv) (.bool bb) (.bool nb) (.slice ao N ca) (.int .i64 f)
        have hst:=hbx.stored iv bb nb ao N ca f
        generalize ((((wx.setCell ⟨g k,0,none⟩ (.int .i64 iv)).setCell ⟨g k,1,none⟩ (.bool bb)).setCell ⟨g k,2,none⟩ (.bool nb)).setCell ⟨g k,3,none⟩ (.slice ao N ca)).setCell ⟨g k,4,none⟩ (.int .i64 f)=W at *
        refine ⟨t,g,rfl,Below.trans hE (ho.below e2),?_,?_,?_,?_⟩
        · intro j' hj' hl
          rcases listed_set hl with h | h
          · omega
          · exact (R.stays j' hj').only _ _ _ _ (h1 j' hj' h) hno ho
        · intro l hl hll
          rcases listed_set hll with h | h
          · omega
          · obtain ⟨q1,q2,q3⟩:=h2 l hl h
            refine ⟨q1,q2,?_⟩
            by_cases hlk:l=k
            · subst hlk;exact ⟨_,_,_,_,_,_,_,hst⟩
            · exact q3.only ho (h3 l k hl hk hlk h hla)
        · intro l l' hl hl' hne a1 a2
          rcases listed_set a1 with h | h
          · omega
          · rcases listed_set a2 with h' | h'
            · omega
            · exact h3 l l' hl hl' hne h h'
        · intro l hl hll
          by_cases hlk:l=k
          · subst hlk
            refine ⟨getD_set_true hla,fun j' hj' e=>?_,iv,bb,nb,ao,N,ca,f,hv,hst⟩
            rw [R.dd j' hj' j hj (e.symm.trans hsj)]
            exact getD_set_true (ready_dep hi hwf)
          · rcases listed_set hll with h | h
            · omega
            · obtain ⟨a1,a3,a2⟩:=h4 l hl h
              exact ⟨getD_set_true a1,fun j' hj' e=>getD_set_true (a3 j' hj' e),a2.only ho (h3 l k hl hk hlk a1 hla)⟩
  · rintro listed a wx hall ⟨t,g,rfl,hE,h1,h2,h3,h4⟩
    rw [R.size] at hall
    refine hend t g wx hE (fun j hj=>h1 j hj (hall j (by omega))) (fun k hk=>?_) (fun k l hk hl hkl=>h3 k l hk hl hkl (hall _ (by omega)) (hall _ (by omega)))
    obtain ⟨e1,e2,e3⟩:=h2 k hk (hall _ (by omega))
    exact ⟨e1,e2,(h4 k hk (hall _ (by omega))).2.2⟩
  · rw [Region.left]
    exact Nat.le_trans (List.countP_le_length) (by simp)
  · have hn:∀ j,(Array.replicate ops.size false).getD j false=true→False:=fun j h=>by
      rw [getD_replicate_false] at h;cases h
    exact ⟨t0,fun _=>0,rfl,hw,fun j _ h=>(hn j h).elim,fun k _ h=>(hn _ h).elim,fun k l _ _ _ h=>(hn _ h).elim,fun k _ h=>(hn _ h).elim⟩
def sumI (i j:Int):Int:=if i≠0 then i else j
def sumD (i:Int) (d:Dy) (j:Int) (e:Dy):Dy:=if i≠0 then d else if j≠0 then e else dadd d e
theorem num_inf {f:Nat} (h:f=9218868437227405312):numI f=1∧infB f=true∧fneg f=false∧frank f=9218868437227405312:=by
  rw [h];decide +kernel
theorem num_ninf {f:Nat} (h:f=18442240474082181120):numI f = -1∧infB f=true∧fneg f=true∧frank f = -9218868437227405312:=by
  rw [h];decide +kernel
theorem sum_low {a c:Nat} (la:a<18446744073709551616) (lc:c<18446744073709551616) (na:nanB a=false) (nc:nanB c=false) (ha:frank a<9218868437227405312) (hc:frank c<9218868437227405312) :
    rnN (sumI (numI a) (numI c)) (sumD (numI a) (numD a) (numI c) (numD c)) 1=plainF (faddF a c 1):=by
  have e1:frank 9218868437227405312=9218868437227405312:=by decide +kernel
  have lr:faddF a c 1<18446744073709551616:=fadd_lt _ lc
  by_cases a2:a=18442240474082181120
  · obtain ⟨i1,i2,i3,i4⟩:=num_ninf a2
    rw [add_infL 1 lc i2 nc (fun h=>?_),i3]
    · unfold sumI rnN
      rw [i1]
      rfl
    · rcases inf_ends h with ⟨h1,_⟩ | ⟨_,h2⟩
      · rw [h1,i3]
      · omega
  · have a1:a≠9218868437227405312:=fun h=>by rw [h,e1] at ha;omega
    obtain ⟨j1,j2,fa⟩:=num_fin na a1 a2 la
    by_cases c2:c=18442240474082181120
    · obtain ⟨i1,i2,i3,i4⟩:=num_ninf c2
      rw [add_infR 1 la lc i2 na (fun h=>absurd h (by rw [(fin_not fa).2];decide)),i3]
      unfold sumI rnN
      rw [i1,j1]
      rfl
    · have c1:c≠9218868437227405312:=fun h=>by rw [h,e1] at hc;omega
      obtain ⟨k1,k2,fc⟩:=num_fin nc c1 c2 lc
      unfold sumI sumD rnN
      rw [j1,k1,j2,k2]
      simp only [ne_eq,not_true,if_false,Int.reduceEq,Int.reduceNeg]
      rw [frd_is (adds_is fa fc)]
      exact plain_eq (rz_facts _ _ _).2 lr (add_fin_rank 1 fa fc lc).2.symm
theorem sum_high {b d:Nat} (lb:b<18446744073709551616) (ld:d<18446744073709551616) (nb:nanB b=false) (nd:nanB d=false) (hb : -9218868437227405312<frank b) (hd : -9218868437227405312<frank d) :
    rnN (sumI (numI b) (numI d)) (sumD (numI b) (numD b) (numI d) (numD d)) 2=plainF (faddF b d 2):=by
  have e1:frank 18442240474082181120 = -9218868437227405312:=by decide +kernel
  have lr:faddF b d 2<18446744073709551616:=fadd_lt _ ld
  by_cases a2:b=9218868437227405312
  · obtain ⟨i1,i2,i3,i4⟩:=num_inf a2
    rw [add_infL 2 ld i2 nd (fun h=>?_),i3]
    · unfold sumI rnN
      rw [i1]
      rfl
    · rcases inf_ends h with ⟨_,h2⟩ | ⟨h1,_⟩
      · omega
      · rw [h1,i3]
  · have a1:b≠18442240474082181120:=fun h=>by rw [h,e1] at hb;omega
    obtain ⟨j1,j2,fa⟩:=num_fin nb a2 a1 lb
    by_cases c2:d=9218868437227405312
    · obtain ⟨i1,i2,i3,i4⟩:=num_inf c2
      rw [add_infR 2 lb ld i2 nb (fun h=>absurd h (by rw [(fin_not fa).2];decide)),i3]
      unfold sumI rnN
      rw [i1,j1]
      rfl
    · have c1:d≠18442240474082181120:=fun h=>by rw [h,e1] at hd;omega
      obtain ⟨k1,k2,fc⟩:=num_fin nd c2 c1 ld
      unfold sumI sumD rnN
      rw [j1,k1,j2,k2]
      simp only [ne_eq,not_true,if_false,Int.reduceEq,Int.reduceNeg]
      rw [frd_is (adds_is fa fc)]
      exact plain_eq (rz_facts _ _ _).2 lr (add_fin_rank 2 fa fc ld).2.symm
open Go Go.RowKit
set_option maxRecDepth 100000 in
theorem refNegF_any (f:Nat) (hf:f<18446744073709551616) (w:World) :
    Calls Tryz.prog 44 #[.int .u64 (f:Int)] w fun e w'=>e=.returned (.int .u64 ((fnegF f:Nat):Int))∧w=w':=by
  have ha:=xor_sign hf
  have hcall:=fun b hb=>refNan_any f hf b hb
  unfold fnegF
  generalize sgz (!fneg f)+fmag f=v at *
  cases hn:nanB f
  all_goals
    have HN:=Lib.hid (hcall _ hn)
    clear hn hcall hf
    go_enter Tryz.func44,Tryz.ntmps44
    go_wp2_with (first | (go_at_call 85;(with_reducible refine (HN.out _).mono ?_);rintro e w' ⟨rfl,rfl⟩))
    go_ret
    exact ⟨rfl,rfl⟩
end Go.Proofs.YtkomhemjodbkpaaGreatDoor
