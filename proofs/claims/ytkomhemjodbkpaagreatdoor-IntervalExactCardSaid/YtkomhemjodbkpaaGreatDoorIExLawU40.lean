import Derived.Test.YtkomhemjodbkpaaGreatDoorIExLawU24
import Derived.Test.YtkomhemjodbkpaaGreatDoorIExLawU37
import Derived.Test.YtkomhemjodbkpaaGreatDoorIExLawU39
import Derived.Test.YtkomhemjodbkpaaGreatDoorIExLawU22
import Derived.Test.YtkomhemjodbkpaaGreatDoorIExLawU13
import Derived.Test.YtkomhemjodbkpaaGreatDoorIExLawU10
import Derived.Test.YtkomhemjodbkpaaGreatDoorIExLawU14
import Derived.Test.YtkomhemjodbkpaaGreatDoorIExLawU25
import Derived.Test.YtkomhemjodbkpaaGreatDoorIExLawU17
import Derived.Test.YtkomhemjodbkpaaGreatDoorIExLawU28
import Derived.Test.YtkomhemjodbkpaaGreatDoorIExLawU30
import Derived.Test.YtkomhemjodbkpaaGreatDoorIExLawU31
namespace Go.Proofs.YtkomhemjodbkpaaGreatDoor
open Go Go.RowKit
set_option maxRecDepth 100000 in
set_option maxHeartbeats 4000000 in
theorem refQuoF_any (u v:Value) (d d':Dy) (mode:Int) (w:World) (hu:Dl w u d) (hv:Dl w v d') (hT:Table w) :
    Calls Tryz.prog 102 #[u,v,.int .i64 mode] w fun e w'=>e=.returned (.int .u64 ((quoV d d' mode:Nat):Int))∧Ext w w':=by
  obtain ⟨R,hR⟩:∃ R,quoV d d' mode=R:=⟨_,rfl⟩
  rw [hR]
  have HR:=Lib.hid hR
  clear hR
  have hu0:=hu
  have hv0:=hv
  obtain ⟨ub,un,uo,uk,uc,_,uf,rfl,-⟩:=hu0
  obtain ⟨vb,vn,vo,vk,vc,_,vf,rfl,-⟩:=hv0
  go_enter Tryz.func102,Tryz.ntmps102
  go_upto_region 1 with fail
  obtain ⟨W,hW,hB,hbx,hby,hz⟩:=boxes_two_d w ub un uo uk uc uf vb vn vo vk vc vf
  rw [←hW]
  clear hW
  have hu:=hu.ext hB
  have hv:=hv.ext hB
  have HT0:=Lib.hid hT
  have hT:=hT.below hB
  generalize hBe:w.heap.size=B at *
  have HBe:=Lib.hid hBe;clear hBe
  go_cut [] from 10 (fun wx=>∃ xb xn xo xk xc xe yb yn yo yk yc ye,Dn wx (.agg #[.bool xb,.bool xn,.slice xo xk xc,.int .i64 xe]) d∧Dn wx (.agg #[.bool yb,.bool yn,.slice yo yk yc,.int .i64 ye]) d' ∧
    DBox wx B xb xn xo xk xc xe∧DBox wx (B+1) yb yn yo yk yc ye∧Below B w wx∧(∀ k,B+1<k→k<W.heap.size→wx.heap[k]?=W.heap[k]?)∧W.heap.size≤wx.heap.size)
  case first =>
    have k0:=hbx.c0
    have k1:=hbx.c1
    have k2:=hbx.c2
    have k3:=hbx.c3
    have l0:=hby.c0
    have l1:=hby.c1
    have l2:=hby.c2
    have l3:=hby.c3
    go_region_with (first
      | (go_at_call 131;refine (refDNorm_any _ _ _ (by exact hu.ext (by exact (Below.refl _ _).drew)) (by exact hT.below (by exact (Below.refl _ _).drew))).mono ?_;rintro e w1 ⟨r1,rfl,hr1,hw1⟩;have ex1:Ext W w1:=Ext.trans (by exact (Below.refl _ _).drew) hw1;obtain ⟨xb,xn,xo,xk,xc,xe,rfl⟩:=hr1.parts;have fb:=hby.ext ex1;have h0:=fb.c0;have h1:=fb.c1;have h2:=fb.c2;have h3:=fb.c3)
      | (go_at_call 131;refine (refDNorm_any _ _ _ (by exact hv.ext ex1) (by exact hT.below ex1)).mono ?_;rintro e w2 ⟨r2,rfl,hr2,hw2⟩;have ex2:Ext W w2:=Ext.trans ex1 hw2;obtain ⟨yb,yn,yo,yk,yc,ye,rfl⟩:=hr2.parts;have hr1:=hr1.ext hw2;clear h0 h1 h2 h3;have fa:=hbx.ext ex2;have fb:=hby.ext ex2;have a0:=fa.c0;have a1:=fa.c1;have a2:=fa.c2;have a3:=fa.c3;have b0:=fb.c0;have b1:=fb.c1;have b2:=fb.c2;have b3:=fb.c3;have g0:=fa.f 0;have g1:=fa.f 1;have g2:=fa.f 2;have g3:=fa.f 3;have h0:=fb.f 0;have h1:=fb.f 1;have h2:=fb.f 2;have h3:=fb.f 3))
    all_goals
      go_wp2
      go_meet
    all_goals
      clear a0 a1 a2 a3 b0 b1 b2 b3 g0 g1 g2 g3 h0 h1 h2 h3 k0 k1 k2 k3 l0 l1 l2 l3
      obtain ⟨hB2,hB2'⟩:=bnext hB (by omega) ex2
      obtain ⟨Z,hZ,z1,z2,z3,z4,z5,z6,z7⟩:=two_dyads fa fb (by omega) (Nat.le_refl B) (Nat.le_succ B) hr1 hr2 hB2
      rw [←hZ]
      exact ⟨_,_,_,_,_,_,_,_,_,_,_,_,z1,z2,z4,z5,z3,fun k hk1 hk2=>by rw [z6 k (by omega) (by omega)];exact Below.block ex2 k hk2,by rw [z7];exact Below.size ex2⟩
  case rest =>
    obtain ⟨xb,xn,xo,xk,xc,xe,yb,yn,yo,yk,yc,ye,hx,hy,bx,bY,hB1,hkeep,hzc⟩:=hcut
    have hT1:=(show Table w from HT0.out).below (w':=wc) (by rw [HBe.out];exact hB1)
    have HT:=Lib.hid hT1
    clear hT1 hbx hby hu hv hT hB hkeep
    have k0:=bx.c0
    have k1:=bx.c1
    have k2:=bx.c2
    have k3:=bx.c3
    have l0:=bY.c0
    have l1:=bY.c1
    have l2:=bY.c2
    have l3:=bY.c3
    cases d with
    | none =>
      obtain rfl:=dn_none hx
      obtain rfl:R=9221120237041090560:=HR.out.symm
      go_wp2
      go_ret
      refine ⟨rfl,?_⟩
      show Below _ _ _;rw [HBe.out];exact hB1
    | some q =>
      obtain ⟨m,f⟩:=q
      obtain ⟨rfl,rfl,hm⟩:=dn_some hx
      cases d' with
      | none =>
        obtain rfl:=dn_none hy
        obtain rfl:R=9221120237041090560:=HR.out.symm
        go_wp2
        go_ret
        refine ⟨rfl,?_⟩
        show Below _ _ _;rw [HBe.out];exact hB1
      | some q =>
        obtain ⟨m',f'⟩:=q
        obtain ⟨rfl,rfl,hm'⟩:=dn_some hy
        have hnx:=nd_blen hx.1
        have hny:=nd_blen hy.1
        simp only [dm,dx,Option.getD_some] at hnx hny
        obtain ⟨hnx,hx0,hx1⟩:=hnx
        obtain ⟨hny,hy0,hy1⟩:=hny
        have HNX:=Lib.hid hm.neg
        have HNY:=Lib.hid hm'.neg
        have gm:=bn_bg_of hm (by omega)
        have gm':=bn_bg_of hm' (by omega)
        clear hx hy hm hm'
        by_cases h3:m'=0
        · subst h3
          have hs3:sgn3 (0:Int) 0=0:=rfl
          have hR:R=9221120237041090560:=by
            rw [←HR.out];unfold quoV;dsimp only
            rw [if_pos rfl]
          subst hR
          have CS:=refSign_any _ _ _ _ _ wc gm'
          rw [hs3] at CS
          have CS:=Lib.hid CS
          go_wp2_with fail
          refine CS.out.mono ?_
          rintro e w1 ⟨rfl,hw1⟩
          obtain ⟨hB2,hB2'⟩:=bnext hB1 (by omega) hw1
          clear k0 k1 k2 k3 l0 l1 l2 l3 CS
          go_wp2
          go_ret
          refine ⟨rfl,?_⟩
          show Below _ _ _;rw [HBe.out];exact hB2
        · obtain ⟨sy,hsy⟩:∃ sy,sgn3 m' 0=sy:=⟨_,rfl⟩
          have hsy0:(sy == 0)=false:=by
            rw [←hsy];unfold sgn3
            split
            · rfl
            · split <;> first | rfl | omega
          have CS:=refSign_any _ _ _ _ _ wc gm'
          rw [hsy] at CS
          have CS:=Lib.hid CS
          clear hsy
          go_wp2_with fail
          refine CS.out.mono ?_
          rintro e w1 ⟨rfl,hw1⟩
          have hw1:Ext wc w1:=hw1
          have bx:=bx.ext hw1
          have bY:=bY.ext hw1
          have gm:=gm.below hw1
          have gm':=gm'.below hw1
          have HT:=Lib.hid (HT.out.below hw1)
          obtain ⟨hB2,hB2'⟩:=bnext hB1 (by omega) hw1
          have hz1:=Below.size hw1
          clear k0 k1 k2 k3 l0 l1 l2 l3 CS hw1 hB1
          have k0:=bx.c0
          have k1:=bx.c1
          have k2:=bx.c2
          have k3:=bx.c3
          by_cases h4:m=0
          · subst h4
            have hs4:sgn3 (0:Int) 0=0:=rfl
            have hR:R=0:=by
              rw [←HR.out];unfold quoV;dsimp only
              rw [if_neg h3,if_pos rfl]
            subst hR
            have CS:=refSign_any _ _ _ _ _ w1 gm
            rw [hs4] at CS
            have CS:=Lib.hid CS
            go_wp2_with fail
            refine CS.out.mono ?_
            rintro e w3 ⟨rfl,hw3⟩
            obtain ⟨hB3,hB3'⟩:=bnext hB2 (by omega) hw3
            clear k0 k1 k2 k3 CS
            go_wp2
            go_ret
            refine ⟨rfl,?_⟩
            show Below _ _ _;rw [HBe.out];exact hB3
          · obtain ⟨sx,hsx⟩:∃ sx,sgn3 m 0=sx:=⟨_,rfl⟩
            have hsx0:(sx == 0)=false:=by
              rw [←hsx];unfold sgn3
              split
              · rfl
              · split <;> first | rfl | omega
            have CS:=refSign_any _ _ _ _ _ w1 gm
            rw [hsx] at CS
            have CS:=Lib.hid CS
            clear hsx
            have HV:flr (decide (m<0) != decide (m'<0)) (m.natAbs*2^(60+2+blen m'.natAbs - blen m.natAbs) / m'.natAbs) (xe - ye + -((60+2+blen m'.natAbs - blen m.natAbs:Nat):Int)) (decide (m.natAbs*2^(60+2+blen m'.natAbs - blen m.natAbs) % m'.natAbs≠0)) mode=R:=by
              rw [←HR.out];unfold quoV;dsimp only
              rw [if_neg h3,if_neg h4]
            have HBIG:=quo_big (A:=m.natAbs) (C:=m'.natAbs) (by omega) (by omega)
            rw [←HNX.out,←HNY.out] at HV
            have hC0:m'.natAbs≠0:=by omega
            clear h3 h4 HR
            go_wp2_with fail
            refine CS.out.mono ?_
            rintro e w2 ⟨rfl,hw2⟩
            have hw2:Ext w1 w2:=hw2
            have bx:=bx.ext hw2
            have bY:=bY.ext hw2
            have gm:=gm.below hw2
            have gm':=gm'.below hw2
            have HT:=Lib.hid (HT.out.below hw2)
            obtain ⟨hB3,hB3'⟩:=bnext hB2 (by omega) hw2
            have hz2:=Below.size hw2
            clear k0 k1 k2 k3 CS hw2 hB2
            have HBIG:=Lib.hid HBIG
            go_upto_region 6 with fail
            have HBIG:=HBIG.out
            obtain ⟨A,hA⟩:∃ A,m.natAbs=A:=⟨_,rfl⟩
            obtain ⟨C,hCe⟩:∃ C,m'.natAbs=C:=⟨_,rfl⟩
            have CA:=fun W' (hE:Ext w2 W')=>(refAbs_any xn xo xk xc m W' (gm.below hE)).mono (fun e w' (h:∃ nr ro k cr,e=.returned (.agg #[.bool nr,.slice ro k cr])∧Bn w' nr ro k cr m.natAbs∧k≤xk∧Below W'.heap.size W' w')=>(show ∃ nr ro k cr,e=.returned (.agg #[.bool nr,.slice ro k cr])∧Bn w' nr ro k cr (m.natAbs:Int)∧Ext W' w' from by obtain ⟨a,b,c,d,h1,h2,_,h4⟩:=h;exact ⟨a,b,c,d,h1,h2,h4⟩))
            have CC:=fun W' (hE:Ext w2 W')=>(refAbs_any yn yo yk yc m' W' (gm'.below hE)).mono (fun e w' (h:∃ nr ro k cr,e=.returned (.agg #[.bool nr,.slice ro k cr])∧Bn w' nr ro k cr m'.natAbs∧k≤yk∧Below W'.heap.size W' w')=>(show ∃ nr ro k cr,e=.returned (.agg #[.bool nr,.slice ro k cr])∧Bn w' nr ro k cr (m'.natAbs:Int)∧Ext W' w' from by obtain ⟨a,b,c,d,h1,h2,_,h4⟩:=h;exact ⟨a,b,c,d,h1,h2,h4⟩))
            rw [hA] at CA HV hnx HBIG
            rw [hCe] at CC HV hny hC0 HBIG
            have CA:=Lib.hid CA
            have CC:=Lib.hid CC
            have hAb:blen A≤140000:=by omega
            have hCb:blen C≤140000:=by omega
            have HAb:=Lib.hid hAb
            have HCb:=Lib.hid hCb
            have CRT:∀ (W':World) (an bn:Bool) (ao bo:Option Addr) (ak bk ac bc:Nat),Bg W' an ao ak ac (A:Int)→Bg W' bn bo bk bc (C:Int)→Calls Tryz.prog 143 #[.agg #[.bool an,.slice ao ak ac],.agg #[.bool bn,.slice bo bk bc],.int .i64 60] W' fun e w'=>∃ qn qo qk qc,e=.returned (.tuple #[.agg #[.bool qn,.slice qo qk qc],.int .i64 (-((60+2+blen C - blen A:Nat):Int)),.bool (decide (A*2^(60+2+blen C - blen A) % C≠0))])∧Bn w' qn qo qk qc ((A*2^(60+2+blen C - blen A) / C:Nat):Int)∧Ext W' w':=fun W' an bn ao bo ak bk ac bc g1 g2=>refRatio_any A C an bn ao bo ak bk ac bc 60 W' g1 g2 hAb hCb hC0 (by omega)
            have hkb:60+2+blen C - blen A≤150000:=by omega
            obtain ⟨k,hk⟩:∃ k,60+2+blen C - blen A=k:=⟨_,rfl⟩
            rw [hk] at CRT HV hkb HBIG
            have hNb:blen (A*2^k / C)≤300000:=by
              have h1:=blen_lt A
              have h2:A*2^k<2^(blen A+k):=by rw [Nat.pow_add];exact Nat.mul_lt_mul_of_pos_right h1 (Nat.pow_pos (by omega))
              have h3:=Nat.div_le_self (A*2^k) C
              exact Nat.le_trans (blen_le_of_lt (Nat.lt_of_le_of_lt h3 h2)) (by omega)
            obtain ⟨t,ht⟩:∃ t,decide (A*2^k % C≠0)=t:=⟨_,rfl⟩
            obtain ⟨Q,hQ⟩:∃ Q,A*2^k / C=Q:=⟨_,rfl⟩
            rw [ht,hQ] at CRT
            rw [ht,hQ] at HV
            rw [hQ] at hNb HBIG
            obtain ⟨sn,hsn⟩:∃ sn,(xn != yn)=sn:=⟨_,rfl⟩
            rw [hsn] at HV
            have HSN:=Lib.hid (show (!xn == yn)=sn from hsn)
            have HV:=Lib.hid HV
            have HBIG:=Lib.hid HBIG
            have CRT:=Lib.hid CRT
            have HNb:=Lib.hid hNb
            clear hA hCe hC0 hAb hCb hk ht hQ hsn hNb
            have HC:=Lib.hid (show ∀ wx,Ext w2 wx→(wx.cell? ⟨B,1,none⟩=some (.bool xn)∧wx.cell? ⟨B,2,none⟩=some (.slice xo xk xc))∧(wx.cell? ⟨B+1,1,none⟩=some (.bool yn)∧wx.cell? ⟨B+1,2,none⟩=some (.slice yo yk yc)) from fun wx h=>⟨⟨(bx.ext h).c1,(bx.ext h).c2⟩,(bY.ext h).c1,(bY.ext h).c2⟩)
            have st:Ext w2 w2.drew:=(Below.refl _ _).drew
            obtain ⟨⟨k1,k2⟩,l1,l2⟩:=HC.out w2 (Ext.refl _)
            go_cut [7,8,9] from 30 (fun s9 s10 s11 wx=>∃ G qn qo qk qc,s9=.pointer (some ⟨G,0,none⟩)∧s10=.int .i64 (-(k:Int))∧s11=.bool t∧Box wx G qn qo qk qc∧Bn wx qn qo qk qc (Q:Int)∧Ext w2 wx)
            case first =>
              go_region_held3 (fun wx=>(wx.cell? ⟨B,1,none⟩=some (.bool xn)∧wx.cell? ⟨B,2,none⟩=some (.slice xo xk xc))∧(wx.cell? ⟨B+1,1,none⟩=some (.bool yn)∧wx.cell? ⟨B+1,2,none⟩=some (.slice yo yk yc)))
                (first | exact HC.out _ (by first | assumption | exact Ext.refl _ | exact ext_allocB2 (by assumption) _ | exact ext_adB _ _))
                (first
                  | (go_at_call 144;with_reducible refine (CA.out _ (by first | assumption | exact Ext.refl _ | exact ext_allocB2 (by assumption) _ | exact ext_adB _ _)).mono ?_;rintro e v1 ⟨an,ao,ak,ac,rfl,h1a,hv1⟩;have ex1:Ext w2 v1:=Ext.trans (by first | assumption | exact Ext.refl _ | exact ext_allocB2 (by assumption) _ | exact ext_adB _ _) hv1)
                  | (go_at_call 144;with_reducible refine (CC.out _ (by first | assumption | exact Ext.refl _ | exact ext_allocB2 (by assumption) _ | exact ext_adB _ _)).mono ?_;rintro e v2 ⟨bn,bo,bk,bc,rfl,h2a,hv2⟩;(first | (have hE12:Ext v1 v2:=hv2) | (have hE12:Ext v1 v2:=ext_over hv2));have ex2:Ext w2 v2:=Ext.trans ex1 hE12;have h1b:=bn_ext h1a hE12)
                  | (go_at_call 143;refine (CRT.out _ _ _ _ _ _ _ _ _ (by first | exact bn_bg_of h1b (by rw [Int.natAbs_natCast];have:=HAb.out;omega) | exact bn_bg_of (h1b.below (ext_allocB _ _)) (by rw [Int.natAbs_natCast];have:=HAb.out;omega)) (by first | exact bn_bg_of h2a (by rw [Int.natAbs_natCast];have:=HCb.out;omega) | exact bn_bg_of (h2a.below (ext_allocB _ _)) (by rw [Int.natAbs_natCast];have:=HCb.out;omega))).mono ?_;rintro e v3 ⟨qn,qo,qk,qc,rfl,hq,hv3⟩;have ex3:Ext w2 v3:=Ext.trans (by first | assumption | exact Ext.refl _ | exact ext_allocB2 (by assumption) _ | exact ext_adB _ _) hv3;(first | (have bz:=bbox_in1 (w:=v2) hv3) | (have bz:=Box.below (bbox_in1 (w:=v1) hv2) hv3) | (have bz:=Box.below (bbox_in1 (w:=w2) hv1) (Ext.trans hE12 hv3)) | (have bz:=Box.below (bbox_in1d (w:=w2) hv1) (Ext.trans hE12 hv3)) | skip);(first | (have zl:=bz.lt;have y0:=bz.c0;have y1:=bz.c1;have g0:=bz.f 0;have g1:=bz.f 1;obtain ⟨st1,st2,st3⟩:=bbox_stored (W:=w2) bz hq ex3 (by first | exact Nat.le_refl _ | exact Below.size ex1 | exact Below.size ex2)) | skip)))
              all_goals
                go_wp2
                go_meet
              all_goals
                first
                  | exact ⟨_,qn,qo,qk,qc,rfl,rfl,rfl,st2,st1,st3⟩
                  | exact ⟨_,qn,qo,qk,qc,rfl,rfl,rfl,Box.new _ qn qo qk qc,hq.below (ext_allocB _ _),ext_allocB2 ex3 _⟩
            case rest =>
              obtain ⟨G,qn,qo,qk,qc,rfl,rfl,rfl,hG,hq,hE⟩:=hcut
              obtain ⟨X,hX⟩:∃ X,X=wc:=⟨wc,rfl⟩
              subst hX
              have bx:=bx.ext hE
              have bY:=bY.ext hE
              have HT:=Lib.hid (HT.out.below hE)
              obtain ⟨hB4,hB4'⟩:=bnext hB3 (by omega) hE
              have CR:=refRoundedT_any sn qn qo qk qc Q (xe - ye + -(k:Int)) t mode X (bn_bg_of hq (by rw [Int.natAbs_natCast];have:=HNb.out;omega)) (big_ne HBIG.out) (big_place HBIG.out) (by have:=HNb.out;omega) (by omega) (by omega) HT.out
              rw [HV.out,←HSN.out] at CR
              have CR:=Lib.hid CR
              clear k1 k2 l1 l2 st hE hB3 CA CC HC hq HBIG
              have k0:=bx.c0
              have k1:=bx.c1
              have k2:=bx.c2
              have k3:=bx.c3
              have l0:=bY.c0
              have l1:=bY.c1
              have l2:=bY.c2
              have l3:=bY.c3
              have g0:=hG.c0
              have g1:=hG.c1
              go_wp2_with fail
              with_reducible refine CR.out.mono ?_
              rintro e w5 ⟨rfl,hw5⟩
              have hB5:Below B w w5:=(bnext hB4 (by omega) hw5).1
              have HF:=Lib.hid hB5
              clear k0 k1 k2 k3 l0 l1 l2 l3 g0 g1 CR hB4
              go_wp2
              go_ret
              refine ⟨rfl,?_⟩
              show Below _ _ _;rw [HBe.out];exact HF.out
inductive IsL (S:Nat):List Dy→Int→Prop
  | nil:IsL S [] 0
  | cons {d:Dy} {l:List Dy} {N M:Int} (h:Is d S N) (t:IsL S l M):IsL S (d :: l) (N+M)
theorem IsL.some {S:Nat} {l:List Dy} {N:Int} (h:IsL S l N):none ∉ l:=by
  induction h with
  | nil=>simp
  | cons h _ ih =>
    intro hm
    rcases List.mem_cons.1 hm with e | hm
    · obtain ⟨m,x,h1,_⟩:=h
      rw [←e] at h1;cases h1
    · exact ih hm
open Go Go.RowKit
def rest (f:Nat) (d:Dy):Nat:=frdF (dsub d (fdy f)) 0
open Go.RowKit
set_option maxRecDepth 100000 in
theorem refZero_any (f:Nat) (hf:f<18446744073709551616) (b:Bool) (hb:(fkind f == 0)=b) (w:World) :
    Calls Tryz.prog 105 #[.int .u64 (f:Int)] w fun e w'=>e=.returned (.bool b)∧w=w':=by
  have HK:=Lib.hid hb
  clear hb
  go_enter Tryz.func105,Tryz.ntmps105
  go_wp2_with fail
  refine (refKind_any f hf _).mono ?_
  rintro e w' ⟨rfl,rfl⟩
  go_wp2
  go_ret
  exact ⟨ret_bool HK.out,rfl⟩
open Go.RowKit
theorem kind_zero (f:Nat):(fkind f == 0)=zeroB f:=by
  have h:=fkind_cases f
  unfold zeroB
  generalize fkind f=k at *
  generalize fmag f=m at *
  by_cases h1:m=0
  · rw [decide_eq_true h1,beq_iff_eq];omega
  · rw [decide_eq_false h1,beq_eq_false_iff_ne];omega
theorem fdiv_fin {a b:Nat} {mode:Int} (fa:finB a=true) (fb:finB b=true) (za:zeroB a=false) (zb:zeroB b=false):fdivF a b mode=quoV (fdy a) (fdy b) mode:=by
  have sa:=sig_ne za
  have sb:=sig_ne zb
  obtain ⟨pa,la,na⟩:=fdy_parts fa sa (tzf_isTz _)
  obtain ⟨pb,lb,nb⟩:=fdy_parts fb sb (tzf_isTz _)
  have ha:=tz_parts sa
  have hb:=tz_parts sb
  unfold fdivF
  rw [(fin_not fa).1,(fin_not fa).2,(fin_not fb).1,(fin_not fb).2,za,zb,pa,pb]
  simp only [Bool.or_false,Bool.and_false,Bool.false_eq_true,if_false]
  generalize sig a / 2^tzf (sig a)=A at *
  generalize sig b / 2^tzf (sig b)=C at *
  generalize tzf (sig a)=i at *
  generalize tzf (sig b)=l at *
  obtain ⟨d1,d2,d3⟩:=sgn_parts (fneg a) na
  obtain ⟨e1,e2,e3⟩:=sgn_parts (fneg b) nb
  unfold quoV
  dsimp only
  rw [if_neg e3,if_neg d3,d1,e1,d2,e2,flr_sgz]
  have h:=div_long (neg:=fneg a != fneg b) (mode:=mode) (ex:=-1074+(fsh a:Int)) (ey:=-1074+(fsh b:Int)) ha hb na nb (sig_lt a) (sig_lt b) (big_53 (quo_big na nb))
  rw [h]
  congr 2
open Go Go.RowKit
set_option maxRecDepth 100000 in
set_option maxHeartbeats 8000000 in
theorem refRoot_any (A:Nat) (nb:Bool) (ao:Option Addr) (n ca p:Nat) (e:Int) (w:World) (ha:Bg w nb ao n ca (A:Int)) (hbA:blen A≤140000) (he : -1000000≤e∧e≤1000000) (hp:p≤4096) :
    Calls Tryz.prog 148 #[.agg #[.bool nb,.slice ao n ca],.int .i64 e,.int .i64 (p:Int)] w fun r w'=>∃ k qn qo qk qc,2*(p:Int)+4 - (blen A:Int)≤(k:Nat)∧(e - (k:Int)) % 2=0∧k≤9001∧r=.returned (.tuple #[.agg #[.bool qn,.slice qo qk qc],.int .i64 ((e - (k:Int)) / 2),.bool (decide (isq (A*2^k)*isq (A*2^k)≠A*2^k))])∧Bn w' qn qo qk qc ((isq (A*2^k):Nat):Int)∧Ext w w':=by
  have HMX:=Lib.hid (show max (2*(p:Int)+6 - (blen A:Int)) 0=((2*p+6 - blen A:Nat):Int) by omega)
  go_enter Tryz.func148,Tryz.ntmps148
  go_upto_region 1 with fail
  obtain ⟨W,hW,hB,hx,hD,hz⟩:=boxes1 w nb ao n ca
  rw [←hW]
  clear hW
  have ha:=ha.below hB
  generalize hBe:w.heap.size=B at *
  have HBe:=Lib.hid hBe;clear hBe
  have hn0:=ha.small
  have k0:=hx.c0
  have k1:=hx.c1
  have CA:=Lib.hid (show Calls Tryz.prog 175 #[.agg #[.bool nb,.slice ao n ca]] W fun e w'=>e=.returned (.int .i64 ((blen A:Nat):Int))∧Ext W w' from refBitLen_any nb ao n ca (A:Int) W ha)
  go_wp2_with fail
  refine CA.out.mono ?_
  rintro r V ⟨rfl,hV⟩
  have ha:=ha.below hV
  have hx:=hx.below hV
  have hD:=hD.below hV
  have hBV:Below B w V:=Below.trans hB (Below.mono hV (by omega))
  have hzV:B+2≤V.heap.size:=by have:=Below.size hV;omega
  clear k0 k1 CA hV hB hz
  go_upto_region 2 with fail
  rw [HMX.out]
  clear HMX
  have hke:2*p+6 - blen A≤9000:=by omega
  have hk1:2*(p:Int)+6 - (blen A:Int)≤((2*p+6 - blen A:Nat):Int):=by omega
  generalize 2*p+6 - blen A=k at *
  have hwk:IntKind.i64.wrap (e - (k:Int))=e - (k:Int):=IntWalk.i64_in _ ⟨by omega,by omega⟩
  by_cases hpar:(e - (k:Int)) % 2=0
  · have htm:(e - (k:Int)).tmod 2=0:=by
      rw [Int.tmod_eq_zero_of_dvd (Int.dvd_of_emod_eq_zero hpar)]
    have htb:((e - (k:Int)).tmod 2 != 0)=false:=by rw [htm];rfl
    have HK4:=Lib.hid (show 2*(p:Int)+4 - (blen A:Int)≤(k:Int) by omega)
    have HEV:=Lib.hid hpar
    obtain ⟨M,hM⟩:∃ M,A*2^k=M:=⟨_,rfl⟩
    have hbM:=Lib.hid (show blen M≤300000 by
      have h1:=blen_lt A
      have h2:A*2^k<2^(blen A+k):=by rw [Nat.pow_add];exact Nat.mul_lt_mul_of_pos_right h1 (Nat.pow_pos (by omega))
      rw [←hM]
      exact Nat.le_trans (blen_le_of_lt h2) (by omega))
    have C1:=Lib.hid (fun W (hE:Ext V W)=>(show Calls Tryz.prog 171 #[.agg #[.bool nb,.slice ao n ca],.int .i64 (k:Int)] W fun e w'=>∃ nr ro l cr,e=.returned (.agg #[.bool nr,.slice ro l cr])∧Bn w' nr ro l cr (M:Int)∧Ext W w' from by
      rw [←hM,Int.natCast_mul,Int.natCast_pow]
      exact (refShift_up nb ao n ca (A:Int) k W (ha.below hE) (by omega)).mono fun r w' ⟨nr,ro,l,cr,h1,h2,_,h4⟩=>⟨nr,ro,l,cr,h1,h2,h4⟩))
    have HM:=Lib.hid hM
    clear hM
    clear hpar
    go_upto_region 4 with fail
    have k0:=hx.c0
    have k1:=hx.c1
    go_wp2_with fail
    refine (C1.out _ (Ext.refl _)).mono ?_
    rintro r w2 ⟨mn,mo,ml,mc,rfl,hm,hw2⟩
    have hx:=hx.below hw2
    have hD:=hD.below hw2
    have hB2:Below B w w2:=Below.trans hBV (Below.mono hw2 (by omega))
    have hz2:B+2≤w2.heap.size:=by have:=Below.size hw2;omega
    clear k0 k1 hw2 hBV hzV
    go_upto_region 5 with fail
    obtain ⟨U,hU,hu,hG,hzu⟩:=box_new w2 mn mo ml mc
    rw [←hU]
    clear hU
    have hm:=hm.below hu
    have hx:=hx.below hu
    have hD:=hD.below hu
    have hB3:Below B w U:=Below.trans hB2 (Below.mono hu (by omega))
    have hDG:B+1≠w2.heap.size:=by omega
    clear hu hB2
    generalize w2.heap.size=G at *
    have k0:=hG.c0
    have k1:=hG.c1
    have hml:ml≤40000:=bn_len hm (by rw [Int.natAbs_natCast];have:=hbM.out;omega)
    have CQ:=Lib.hid (refSqrt_any mn mo ml mc M U (hm.bg (by omega)) (by have:=hbM.out;omega) (by omega))
    go_wp2_with fail
    refine CQ.out.mono ?_
    rintro r w4 ⟨qn,qo,qk,qc,s,rfl,hq,hs1,hs2,hw4⟩
    obtain rfl:=isq_of hs1 hs2
    have hG:=hG.below hw4
    have hm:=hm.below hw4
    have hD:=hD.below hw4
    have hB4:Below B w w4:=Below.trans hB3 (Below.mono hw4 (by omega))
    have hqb:blen (isq M)≤1000000:=by
      have h2:isq M≤M:=by
        rcases Nat.eq_zero_or_pos (isq M) with h | h
        · omega
        · exact Nat.le_trans (Nat.le_mul_of_pos_left _ h) hs1
      exact Nat.le_trans (blen_le_of_lt (Nat.lt_of_le_of_lt h2 (blen_lt M))) (by have:=hbM.out;omega)
    have hpb:blen (isq M*isq M)≤1000000:=Nat.le_trans (blen_le_of_lt (Nat.lt_of_le_of_lt hs1 (blen_lt M))) (by have:=hbM.out;omega)
    have hql:qk≤40000:=bn_len hq (by rw [Int.natAbs_natCast];exact hqb)
    clear hs1 hs2 CQ hw4 hB3 k0 k1 hx
    have d0:=hD.c0
    have d1:=hD.c1
    have d2:=hD.f 0
    have d3:=hD.f 1
    have o1:=only_set2 w4 (B+1) (.bool qn) (.slice qo qk qc)
    have hD5:=hD.stored qn qo qk qc
    have hG5:=hG.only o1 (Ne.symm hDG)
    have hq5:=Bn.only_bx' hq hD o1
    have hm5:=Bn.only_bx' hm hD o1
    have hB5:=Below.trans hB4 (o1.below (Nat.le_succ B))
    clear o1
    go_upto_region 6 with fail
    generalize (w4.setCell ⟨B+1,0,none⟩ (.bool qn)).setCell ⟨B+1,1,none⟩ (.slice qo qk qc)=X at *
    clear d0 d1 d2 d3 hD hG hq hm hB4
    obtain ⟨sg,hsg⟩:∃ sg,sgn3 ((isq M:Int)*(isq M:Int)) (M:Int)=sg:=⟨_,rfl⟩
    have hsb:(sg != 0)=decide (isq M*isq M≠M):=by
      rw [show (sg != 0)=decide (sg≠0) from by by_cases h:sg=0 <;> simp [h],←hsg]
      unfold sgn3
      apply decide_eq_decide.2
      rw [←Int.natCast_mul]
      split
      · omega
      · split <;> omega
    have HSB:=Lib.hid hsb
    have HSG:=Lib.hid hsg
    have HPB:=Lib.hid hpb
    have CM:=Lib.hid (fun W' (hE:Ext X W')=>refMul_any qn qn qo qk qc qo qk qc (isq M:Int) (isq M:Int) W' ((hq5.bg (by omega)).below hE) ((hq5.bg (by omega)).below hE))
    have HC:=Lib.hid (show ∀ wx,Ext X wx→(wx.cell? ⟨B+1,0,none⟩=some (.bool qn)∧wx.cell? ⟨B+1,1,none⟩=some (.slice qo qk qc))∧(wx.cell? ⟨G,0,none⟩=some (.bool mn)∧wx.cell? ⟨G,1,none⟩=some (.slice mo ml mc)) from fun wx h=>⟨⟨(hD5.below h).c0,(hD5.below h).c1⟩,(hG5.below h).c0,(hG5.below h).c1⟩)
    have HS:=Lib.hid (show ∀ wx,Ext X wx→(fun wx=>(wx.cell? ⟨B+1,0,none⟩=some (.bool qn)∧wx.cell? ⟨B+1,1,none⟩=some (.slice qo qk qc))∧(wx.cell? ⟨G,0,none⟩=some (.bool mn)∧wx.cell? ⟨G,1,none⟩=some (.slice mo ml mc))) ((wx.setCell ⟨B+1,0,none⟩ (.bool qn)).setCell ⟨B+1,1,none⟩ (.slice qo qk qc)) from fun wx h=>⟨⟨((hD5.below h).stored qn qo qk qc).c0,((hD5.below h).stored qn qo qk qc).c1⟩,bcells_stored hDG ⟨(hG5.below h).c0,(hG5.below h).c1⟩⟩)
    clear hsg hsb hpb hqb
    have stx:Ext X X.drew:=(Below.refl _ _).drew
    obtain ⟨⟨k0,k1⟩,l0,l1⟩:=HC.out X (Ext.refl X)
    have hwk:IntKind.i64.wrap (e - (k:Int))=e - (k:Int):=IntWalk.i64_in _ ⟨by omega,by omega⟩
    have hwd:IntKind.i64.wrap ((e - (k:Int)).tdiv 2)=(e - (k:Int)) / 2:=by
      have h2:(e - (k:Int)).tdiv 2=(e - (k:Int)) / 2:=Int.tdiv_eq_ediv_of_dvd (Int.dvd_of_emod_eq_zero HEV.out)
      rw [h2]
      exact IntWalk.i64_in _ ⟨by omega,by omega⟩
    have hdg1:¬ B+1=G:=hDG
    have hdg2:¬ G=B+1:=Ne.symm hDG
    go_region_held3 (fun wx=>(wx.cell? ⟨B+1,0,none⟩=some (.bool qn)∧wx.cell? ⟨B+1,1,none⟩=some (.slice qo qk qc))∧(wx.cell? ⟨G,0,none⟩=some (.bool mn)∧wx.cell? ⟨G,1,none⟩=some (.slice mo ml mc)))
      (first | exact HC.out _ (by first | assumption | exact Ext.refl _) | exact HS.out _ (by assumption))
      (first
        | (go_at_call 138;refine (CM.out _ stx).mono ?_;rintro r w5 ⟨pn,po,pk,pc,rfl,hp,hv5⟩;have ex5:Ext X w5:=Ext.trans stx hv5)
        | (go_at_call 181;refine (refCmp_any _ _ _ _ _ _ _ _ _ _ _ (bn_bg_of hp (by rw [←Int.natCast_mul,Int.natAbs_natCast];exact HPB.out)) ((hm5.bg (by omega)).below ex5) (Nat.le_trans (bn_len hp (by rw [←Int.natCast_mul,Int.natAbs_natCast];exact HPB.out)) (by omega)) (by omega)).mono ?_;rw [HSG.out];rintro r w6 ⟨rfl,hv6⟩;have ex6:Ext X w6:=Ext.trans ex5 hv6;have fD:=hD5.below ex6;have d0:=fD.c0;have d1:=fD.c1;have d2:=fD.f 0;have d3:=fD.f 1))
    all_goals
      have hst:=fD.stored qn qo qk qc
      have z0:=hst.c0
      have z1:=hst.c1
      have HRES:=Lib.hid (And.intro (Bn.only_bx' (hq5.below ex6) fD (only_set2 w6 (B+1) (.bool qn) (.slice qo qk qc))) (Below.trans (Below.trans hB5 (Below.mono ex6 (by have:=hD5.lt;omega))) ((only_set2 w6 (B+1) (.bool qn) (.slice qo qk qc)).below (show B≤B+1 by omega))))
      clear hst d0 d1 d2 d3
      go_wp2
      refine bodyPost_ret (v:=.tuple #[.agg #[.bool qn,.slice qo qk qc],.int .i64 ((e - (k:Int)) / 2),.bool (sg != 0)]) (by simp [results,Tryz.results148,go_sem,z0,z1]) rfl ⟨k,qn,qo,qk,qc,HK4.out,HEV.out,by omega,by rw [HSB.out,HM.out],by rw [HM.out];exact HRES.out.1,?_⟩
      show Below _ _ _
      rw [HBe.out]
      exact HRES.out.2
  · have htb:((e - (k:Int)).tmod 2 != 0)=true:=by
      rw [bne_iff_ne]
      intro h
      exact hpar (Int.emod_eq_zero_of_dvd (Int.dvd_of_tmod_eq_zero h))
    have hwk1:IntKind.i64.wrap ((k:Int)+1)=((k+1:Nat):Int):=by rw [IntWalk.i64_in _ ⟨by omega,by omega⟩];omega
    have hk1:2*(p:Int)+4 - (blen A:Int)≤((k+1:Nat):Int):=by omega
    have hev:(e - ((k+1:Nat):Int)) % 2=0:=by omega
    have hke2:k+1≤9001:=by omega
    go_upto_region 3 with fail
    go_upto_region 4 with fail
    rw [show (k:Int)+1=((k+1:Nat):Int) by omega]
    clear hpar htb hwk1 hwk hke
    generalize k+1=k at *
    have HK4:=Lib.hid hk1
    have HEV:=Lib.hid hev
    clear hev
    obtain ⟨M,hM⟩:∃ M,A*2^k=M:=⟨_,rfl⟩
    have hbM:=Lib.hid (show blen M≤300000 by
      have h1:=blen_lt A
      have h2:A*2^k<2^(blen A+k):=by rw [Nat.pow_add];exact Nat.mul_lt_mul_of_pos_right h1 (Nat.pow_pos (by omega))
      rw [←hM]
      exact Nat.le_trans (blen_le_of_lt h2) (by omega))
    have C1:=Lib.hid (fun W (hE:Ext V W)=>(show Calls Tryz.prog 171 #[.agg #[.bool nb,.slice ao n ca],.int .i64 (k:Int)] W fun e w'=>∃ nr ro l cr,e=.returned (.agg #[.bool nr,.slice ro l cr])∧Bn w' nr ro l cr (M:Int)∧Ext W w' from by
      rw [←hM,Int.natCast_mul,Int.natCast_pow]
      exact (refShift_up nb ao n ca (A:Int) k W (ha.below hE) (by omega)).mono fun r w' ⟨nr,ro,l,cr,h1,h2,_,h4⟩=>⟨nr,ro,l,cr,h1,h2,h4⟩))
    have HM:=Lib.hid hM
    clear hM
    have k0:=hx.c0
    have k1:=hx.c1
    go_wp2_with fail
    refine (C1.out _ (Ext.refl _)).mono ?_
    rintro r w2 ⟨mn,mo,ml,mc,rfl,hm,hw2⟩
    have hx:=hx.below hw2
    have hD:=hD.below hw2
    have hB2:Below B w w2:=Below.trans hBV (Below.mono hw2 (by omega))
    have hz2:B+2≤w2.heap.size:=by have:=Below.size hw2;omega
    clear k0 k1 hw2 hBV hzV
    go_upto_region 5 with fail
    obtain ⟨U,hU,hu,hG,hzu⟩:=box_new w2 mn mo ml mc
    rw [←hU]
    clear hU
    have hm:=hm.below hu
    have hx:=hx.below hu
    have hD:=hD.below hu
    have hB3:Below B w U:=Below.trans hB2 (Below.mono hu (by omega))
    have hDG:B+1≠w2.heap.size:=by omega
    clear hu hB2
    generalize w2.heap.size=G at *
    have k0:=hG.c0
    have k1:=hG.c1
    have hml:ml≤40000:=bn_len hm (by rw [Int.natAbs_natCast];have:=hbM.out;omega)
    have CQ:=Lib.hid (refSqrt_any mn mo ml mc M U (hm.bg (by omega)) (by have:=hbM.out;omega) (by omega))
    go_wp2_with fail
    refine CQ.out.mono ?_
    rintro r w4 ⟨qn,qo,qk,qc,s,rfl,hq,hs1,hs2,hw4⟩
    obtain rfl:=isq_of hs1 hs2
    have hG:=hG.below hw4
    have hm:=hm.below hw4
    have hD:=hD.below hw4
    have hB4:Below B w w4:=Below.trans hB3 (Below.mono hw4 (by omega))
    have hqb:blen (isq M)≤1000000:=by
      have h2:isq M≤M:=by
        rcases Nat.eq_zero_or_pos (isq M) with h | h
        · omega
        · exact Nat.le_trans (Nat.le_mul_of_pos_left _ h) hs1
      exact Nat.le_trans (blen_le_of_lt (Nat.lt_of_le_of_lt h2 (blen_lt M))) (by have:=hbM.out;omega)
    have hpb:blen (isq M*isq M)≤1000000:=Nat.le_trans (blen_le_of_lt (Nat.lt_of_le_of_lt hs1 (blen_lt M))) (by have:=hbM.out;omega)
    have hql:qk≤40000:=bn_len hq (by rw [Int.natAbs_natCast];exact hqb)
    clear hs1 hs2 CQ hw4 hB3 k0 k1 hx
    have d0:=hD.c0
    have d1:=hD.c1
    have d2:=hD.f 0
    have d3:=hD.f 1
    have o1:=only_set2 w4 (B+1) (.bool qn) (.slice qo qk qc)
    have hD5:=hD.stored qn qo qk qc
    have hG5:=hG.only o1 (Ne.symm hDG)
    have hq5:=Bn.only_bx' hq hD o1
    have hm5:=Bn.only_bx' hm hD o1
    have hB5:=Below.trans hB4 (o1.below (Nat.le_succ B))
    clear o1
    go_upto_region 6 with fail
    generalize (w4.setCell ⟨B+1,0,none⟩ (.bool qn)).setCell ⟨B+1,1,none⟩ (.slice qo qk qc)=X at *
    clear d0 d1 d2 d3 hD hG hq hm hB4
    obtain ⟨sg,hsg⟩:∃ sg,sgn3 ((isq M:Int)*(isq M:Int)) (M:Int)=sg:=⟨_,rfl⟩
    have hsb:(sg != 0)=decide (isq M*isq M≠M):=by
      rw [show (sg != 0)=decide (sg≠0) from by by_cases h:sg=0 <;> simp [h],←hsg]
      unfold sgn3
      apply decide_eq_decide.2
      rw [←Int.natCast_mul]
      split
      · omega
      · split <;> omega
    have HSB:=Lib.hid hsb
    have HSG:=Lib.hid hsg
    have HPB:=Lib.hid hpb
    have CM:=Lib.hid (fun W' (hE:Ext X W')=>refMul_any qn qn qo qk qc qo qk qc (isq M:Int) (isq M:Int) W' ((hq5.bg (by omega)).below hE) ((hq5.bg (by omega)).below hE))
    have HC:=Lib.hid (show ∀ wx,Ext X wx→(wx.cell? ⟨B+1,0,none⟩=some (.bool qn)∧wx.cell? ⟨B+1,1,none⟩=some (.slice qo qk qc))∧(wx.cell? ⟨G,0,none⟩=some (.bool mn)∧wx.cell? ⟨G,1,none⟩=some (.slice mo ml mc)) from fun wx h=>⟨⟨(hD5.below h).c0,(hD5.below h).c1⟩,(hG5.below h).c0,(hG5.below h).c1⟩)
    have HS:=Lib.hid (show ∀ wx,Ext X wx→(fun wx=>(wx.cell? ⟨B+1,0,none⟩=some (.bool qn)∧wx.cell? ⟨B+1,1,none⟩=some (.slice qo qk qc))∧(wx.cell? ⟨G,0,none⟩=some (.bool mn)∧wx.cell? ⟨G,1,none⟩=some (.slice mo ml mc))) ((wx.setCell ⟨B+1,0,none⟩ (.bool qn)).setCell ⟨B+1,1,none⟩ (.slice qo qk qc)) from fun wx h=>⟨⟨((hD5.below h).stored qn qo qk qc).c0,((hD5.below h).stored qn qo qk qc).c1⟩,bcells_stored hDG ⟨(hG5.below h).c0,(hG5.below h).c1⟩⟩)
    clear hsg hsb hpb hqb
    have stx:Ext X X.drew:=(Below.refl _ _).drew
    obtain ⟨⟨k0,k1⟩,l0,l1⟩:=HC.out X (Ext.refl X)
    have hwk:IntKind.i64.wrap (e - (k:Int))=e - (k:Int):=IntWalk.i64_in _ ⟨by omega,by omega⟩
    have hwd:IntKind.i64.wrap ((e - (k:Int)).tdiv 2)=(e - (k:Int)) / 2:=by
      have h2:(e - (k:Int)).tdiv 2=(e - (k:Int)) / 2:=Int.tdiv_eq_ediv_of_dvd (Int.dvd_of_emod_eq_zero HEV.out)
      rw [h2]
      exact IntWalk.i64_in _ ⟨by omega,by omega⟩
    have hdg1:¬ B+1=G:=hDG
    have hdg2:¬ G=B+1:=Ne.symm hDG
    go_region_held3 (fun wx=>(wx.cell? ⟨B+1,0,none⟩=some (.bool qn)∧wx.cell? ⟨B+1,1,none⟩=some (.slice qo qk qc))∧(wx.cell? ⟨G,0,none⟩=some (.bool mn)∧wx.cell? ⟨G,1,none⟩=some (.slice mo ml mc)))
      (first | exact HC.out _ (by first | assumption | exact Ext.refl _) | exact HS.out _ (by assumption))
      (first
        | (go_at_call 138;refine (CM.out _ stx).mono ?_;rintro r w5 ⟨pn,po,pk,pc,rfl,hp,hv5⟩;have ex5:Ext X w5:=Ext.trans stx hv5)
        | (go_at_call 181;refine (refCmp_any _ _ _ _ _ _ _ _ _ _ _ (bn_bg_of hp (by rw [←Int.natCast_mul,Int.natAbs_natCast];exact HPB.out)) ((hm5.bg (by omega)).below ex5) (Nat.le_trans (bn_len hp (by rw [←Int.natCast_mul,Int.natAbs_natCast];exact HPB.out)) (by omega)) (by omega)).mono ?_;rw [HSG.out];rintro r w6 ⟨rfl,hv6⟩;have ex6:Ext X w6:=Ext.trans ex5 hv6;have fD:=hD5.below ex6;have d0:=fD.c0;have d1:=fD.c1;have d2:=fD.f 0;have d3:=fD.f 1))
    all_goals
      have hst:=fD.stored qn qo qk qc
      have z0:=hst.c0
      have z1:=hst.c1
      have HRES:=Lib.hid (And.intro (Bn.only_bx' (hq5.below ex6) fD (only_set2 w6 (B+1) (.bool qn) (.slice qo qk qc))) (Below.trans (Below.trans hB5 (Below.mono ex6 (by have:=hD5.lt;omega))) ((only_set2 w6 (B+1) (.bool qn) (.slice qo qk qc)).below (show B≤B+1 by omega))))
      clear hst d0 d1 d2 d3
      go_wp2
      refine bodyPost_ret (v:=.tuple #[.agg #[.bool qn,.slice qo qk qc],.int .i64 ((e - (k:Int)) / 2),.bool (sg != 0)]) (by simp [results,Tryz.results148,go_sem,z0,z1]) rfl ⟨k,qn,qo,qk,qc,HK4.out,HEV.out,by omega,by rw [HSB.out,HM.out],by rw [HM.out];exact HRES.out.1,?_⟩
      show Below _ _ _
      rw [HBe.out]
      exact HRES.out.2
end Go.Proofs.YtkomhemjodbkpaaGreatDoor
