import Derived.Test.YtkomhemjodbkpaaGreatDoorIExLawU18
import Derived.Test.YtkomhemjodbkpaaGreatDoorIExLawU7
import Derived.Deep.RegionHeld3
import Derived.Test.YtkomhemjodbkpaaGreatDoorIExLawU3
import Derived.Test.YtkomhemjodbkpaaGreatDoorRows
import Derived.Test.YtkomhemjodbkpaaGreatDoorIExLawU0
import Derived.WalkKit
import Derived.WalkSpells
import Derived.WalkLawsBesides
import Derived.Laws.Bits64
import Derived.Laws.Bits64b
import Derived.Deep.QuietTactic
import Derived.BigQuiet
import Derived.Test.YtkomhemjodbkpaaGreatDoorIExLawU12
import Derived.Deep.CutRange
namespace Go.Proofs.YtkomhemjodbkpaaGreatDoor
open Go.RowKit
theorem sgd_not {nb:Bool} {zs:List Int}:sgd (!nb) zs = - sgd nb zs:=by unfold sgd;cases nb <;> simp
set_option maxRecDepth 100000 in
set_option maxHeartbeats 1000000 in
theorem refNeg_any (nb:Bool) (ao:Option Addr) (n cap:Nat) (x:Int) (w:World) (h:Bg w nb ao n cap x) :
    Calls Tryz.prog 209 #[.agg #[.bool nb,.slice ao n cap]] w fun e w'=>∃ nr ro k cr,e=.returned (.agg #[.bool nr,.slice ro k cr])∧Bn w' nr ro k cr (-x)∧k≤n∧Ext w w':=by
  obtain ⟨⟨zs,hs,hx⟩,hsm⟩:=h
  subst hx
  go_enter Tryz.func209,Tryz.ntmps209
  go_wp2_with fail
  obtain ⟨W,hW,hB,hbx,hrx,hz⟩:=boxes1 w nb ao n cap
  rw [←hW]
  clear hW
  have hs0:=hs.below hB
  generalize hBe:w.heap.size=B at *
  have HBe:=Lib.hid hBe;clear hBe
  have k0:=hbx.c0
  have k1:=hbx.c1
  go_wp2_with fail
  refine (make1_any (!nb) ao n cap zs W hs0).mono ?_
  rintro e w1 ⟨nr,ro,k,rc,rfl,hs1,hk,hw1⟩
  have b1:=hrx.below hw1
  have q0:=b1.c0
  have q1:=b1.c1
  have q2:=b1.f 0
  have q3:=b1.f 1
  have hst:=b1.stored nr ro k rc
  have u0:=hst.c0
  have u1:=hst.c1
  obtain ⟨h1,z1⟩:=bnext hB (by omega) hw1
  have hres:Bn ((w1.setCell ⟨B+1,0,none⟩ (.bool nr)).setCell ⟨B+1,1,none⟩ (.slice ro k rc)) nr ro k rc (sgd (!nb) zs):=⟨hs1.neg,hs1.sl.only_box b1 (only_set2 _ _ _ _)⟩
  have hbl:=h1.trans ((only_set2 w1 (B+1) (.bool nr) (.slice ro k rc)).below (Nat.le_succ B))
  have HRES:=Lib.hid hres;clear hres
  go_wp2
  refine bodyPost_ret (v:=.agg #[.bool nr,.slice ro k rc]) (by simp [results,Tryz.results209,go_sem,u0,u1]) rfl ⟨_,ro,k,rc,rfl,?_,hk,?_⟩
  · rw [←sgd_not];exact HRES.out
  · rw [Ext,HBe.out];exact hbl
theorem sgd_prod {nb mb:Bool} {zs ys L:List Int} (h:num L=num zs*num ys):sgd nb zs*sgd mb ys=sgd (nb != mb) L:=by
  unfold sgd
  rw [h]
  cases nb <;> cases mb <;> simp [Int.neg_mul,Int.mul_neg]
set_option maxRecDepth 100000 in
set_option maxHeartbeats 4000000 in
theorem refMul_any (nb mb:Bool) (ao:Option Addr) (n ca:Nat) (bo:Option Addr) (m cb:Nat) (x y:Int) (w:World) (ha:Bg w nb ao n ca x) (hb:Bg w mb bo m cb y) :
    Calls Tryz.prog 138 #[.agg #[.bool nb,.slice ao n ca],.agg #[.bool mb,.slice bo m cb]] w fun e w'=>∃ nr ro k cr,e=.returned (.agg #[.bool nr,.slice ro k cr])∧Bn w' nr ro k cr (x*y)∧Ext w w':=by
  obtain ⟨⟨zs,hs,hx⟩,hsm⟩:=ha
  obtain ⟨⟨ys,hu,hy⟩,hum⟩:=hb
  have hwz:=hs.wf
  have hwy:=hu.wf
  have hz0:=num_nonneg hwz
  have hy0:=num_nonneg hwy
  have hx':=Lib.hid hx;clear hx
  have hy':=Lib.hid hy;clear hy
  go_enter Tryz.func138,Tryz.ntmps138
  go_wp2_with fail
  obtain ⟨W,hW,hB,hbx,hby,hrx,hz⟩:=boxes2 w nb ao n ca mb bo m cb
  rw [←hW]
  clear hW
  have hs0:=hs.below hB
  have hu0:=hu.below hB
  generalize hBe:w.heap.size=B at *
  have HBe:=Lib.hid hBe;clear hBe
  have hBelow:=Lib.hid hB
  clear hs hu hB
  obtain ⟨a,ea⟩:∃ a,(num zs).toNat=a:=⟨_,rfl⟩
  obtain ⟨b,eb⟩:∃ b,(num ys).toNat=b:=⟨_,rfl⟩
  have EA:=Lib.hid ea;clear ea
  have EB:=Lib.hid eb;clear eb
  have k0:=hbx.c0
  have k1':=hbx.c1
  have l0:=hby.c0
  have l1':=hby.c1
  have TAG:=Lib.hid trivial
  go_region_held3 (fun w'=>w'.cell? ⟨B,0,none⟩=some (.bool nb)∧w'.cell? ⟨B,1,none⟩=some (.slice ao n ca)∧w'.cell? ⟨B+1,0,none⟩=some (.bool mb)∧w'.cell? ⟨B+1,1,none⟩=some (.slice bo m cb))
    (first | exact ⟨k0,k1',l0,l1'⟩ | exact ⟨x1.c0,x1.c1,v1.c0,v1.c1⟩ | exact ⟨x2.c0,x2.c1,v2.c0,v2.c1⟩ | exact ⟨x3.c0,x3.c1,v3.c0,v3.c1⟩ | exact ⟨x4.c0,x4.c1,v4.c0,v4.c1⟩ | (refine ⟨?_,?_,?_,?_⟩ <;> go_simp))
    (first
      | (go_at_call 176;clear TAG;refine (refTrim_any ao n ca zs _ (by exact hs0.drew)).mono ?_;rintro e w1 ⟨xo,xk,xc,rfl,hx1,hxk,hw1⟩;have x1:=hbx.drew.below hw1;have v1:=hby.drew.below hw1;have y1:=hrx.drew.below hw1;have e0:=x1.c0;have e1:=x1.c1;have e2:=v1.c0;have e3:=v1.c1)
      | (go_at_call 176;refine (refTrim_any bo m cb ys _ (by exact hu0.drew.below hw1)).mono ?_;rintro e w2 ⟨yo,yk,yc,rfl,hy2,hyk,hw2⟩;have hx2:=hx1.below hw2;have x2:=x1.below hw2;have v2:=v1.below hw2;have y2:=y1.below hw2;clear e0 e1 e2 e3;have e0:=x2.c0;have e1:=x2.c1;have e2:=v2.c0;have e3:=v2.c1)
      | (go_at_call 182;refine (refMulMag_any _ _ _ _ _ _ _ _ _ (by exact hx2) (by exact hy2) (by omega) (by omega)).mono ?_;rintro e w3 ⟨po,pk,pc,L,rfl,hp3,hpn,rfl,hw3⟩;have x3:=x2.below hw3;have v3:=v2.below hw3;have y3:=y2.below hw3;clear e0 e1 e2 e3;have e0:=x3.c0;have e1:=x3.c1;have e2:=v3.c0;have e3:=v3.c1)
      | (go_at_call 177;refine (make1_any (!(nb == mb)) _ _ _ L _ (by exact hp3)).mono ?_;rintro e w4 ⟨nr,ro,k,rc,rfl,hs4,hk,hw4⟩;have x4:=x3.below hw4;have v4:=v3.below hw4;have y4:=y3.below hw4;clear e0 e1 e2 e3;have e0:=x4.c0;have e1:=x4.c1;have e2:=v4.c0;have e3:=v4.c1;have q0:=y4.c0;have q1:=y4.c1;have q2:=y4.f 0;have q3:=y4.f 1))
  obtain ⟨b1,l1⟩:=bnext hBelow.out (by omega) (Below.refl _ W).drew
  obtain ⟨b2,l2⟩:=bnext b1 l1 hw1
  obtain ⟨b3,l3⟩:=bnext b2 l2 hw2
  obtain ⟨b4,l4⟩:=bnext b3 l3 hw3
  obtain ⟨b5,l5⟩:=bnext b4 l4 hw4
  have hEx:=Lib.hid b5
  have HV:Hid (x*y=sgd (!(nb == mb)) L):=Lib.hid (by
    rw [hx'.out,hy'.out]
    refine (sgd_prod ?_).trans rfl
    rw [hpn,num_limbs,num_limbs,Int.toNat_of_nonneg hz0,Int.toNat_of_nonneg hy0])
  clear b1 b2 b3 b4 b5 hw1 hw2 hw3 hw4 hbx hby hrx hBelow k0 k1' l0 l1' x1 x2 x3 x4 v1 v2 v3 v4 y1 y2 y3 hx1 hx2 hy2 hp3 hpn hs0 hu0
  have hst:=y4.stored nr ro k rc
  have u0:=hst.c0
  have u1:=hst.c1
  have HRES:=Lib.hid (show Bn ((w4.setCell ⟨B+1+1,0,none⟩ (.bool nr)).setCell ⟨B+1+1,1,none⟩ (.slice ro k rc)) nr ro k rc (x*y) from by
    rw [HV.out];exact ⟨hs4.neg,hs4.sl.only_box y4 (only_set2 _ _ _ _)⟩)
  have HBL:=Lib.hid (hEx.out.trans ((only_set2 w4 (B+1+1) (.bool nr) (.slice ro k rc)).below (by omega)))
  clear hs4 hst
  go_wp2
  refine bodyPost_ret (v:=.agg #[.bool nr,.slice ro k rc]) (by simp [results,Tryz.results138,go_sem,u0,u1]) rfl ⟨_,ro,k,rc,rfl,HRES.out,?_⟩
  rw [Ext,HBe.out];exact HBL.out
theorem sgd_plus {nb:Bool} {zs ys L:List Int} (h:num L=num zs+num ys):sgd nb zs+sgd nb ys=sgd nb L:=by
  unfold sgd
  rw [h]
  cases nb
  · simp
  · simp only [if_true];omega
theorem sgd_less {nb mb:Bool} {zs ys L:List Int} (hne:nb≠mb) (h:num L=num zs - num ys):sgd nb zs+sgd mb ys=sgd nb L∧sgd mb ys+sgd nb zs=sgd nb L:=by
  unfold sgd
  rw [h]
  cases nb <;> cases mb <;> simp at hne ⊢ <;> omega
theorem sgn3_ge {a b:Nat} (h:b≤a):(sgn3 (a:Int) b≥0)=True:=by
  unfold sgn3
  rw [if_neg (by omega)]
  split <;> simp
theorem sgn3_lt {a b:Nat} (h:¬ b≤a):(sgn3 (a:Int) b≥0)=False:=by
  unfold sgn3
  rw [if_pos (by omega)]
  simp
set_option maxRecDepth 100000 in
set_option maxHeartbeats 4000000 in
theorem refAdd_any (nb mb:Bool) (ao:Option Addr) (n ca:Nat) (bo:Option Addr) (m cb:Nat) (x y:Int) (w:World) (ha:Bg w nb ao n ca x) (hb:Bg w mb bo m cb y) :
    Calls Tryz.prog 135 #[.agg #[.bool nb,.slice ao n ca],.agg #[.bool mb,.slice bo m cb]] w fun e w'=>∃ nr ro k cr,e=.returned (.agg #[.bool nr,.slice ro k cr])∧Bn w' nr ro k cr (x+y)∧Ext w w':=by
  obtain ⟨⟨zs,hs,hx⟩,hsm⟩:=ha
  obtain ⟨⟨ys,hu,hy⟩,hum⟩:=hb
  have hwz:=hs.wf
  have hwy:=hu.wf
  have hz0:=num_nonneg hwz
  have hy0:=num_nonneg hwy
  have hx':=Lib.hid hx;clear hx
  have hy':=Lib.hid hy;clear hy
  go_enter Tryz.func135,Tryz.ntmps135
  go_wp2_with fail
  obtain ⟨W,hW,hB,hbx,hby,hrx,hz⟩:=boxes2 w nb ao n ca mb bo m cb
  rw [←hW]
  clear hW
  have hs0:=hs.below hB
  have hu0:=hu.below hB
  generalize hBe:w.heap.size=B at *
  have HBe:=Lib.hid hBe;clear hBe
  have hBelow:=Lib.hid hB
  clear hs hu hB
  obtain ⟨a,ea⟩:∃ a,(num zs).toNat=a:=⟨_,rfl⟩
  obtain ⟨b,eb⟩:∃ b,(num ys).toNat=b:=⟨_,rfl⟩
  have EA:=Lib.hid ea;clear ea
  have EB:=Lib.hid eb;clear eb
  have k0:=hbx.c0
  have k1':=hbx.c1
  have l0:=hby.c0
  have l1':=hby.c1
  have TAG:=Lib.hid trivial
  go_region_held3 (fun w'=>w'.cell? ⟨B,0,none⟩=some (.bool nb)∧w'.cell? ⟨B,1,none⟩=some (.slice ao n ca)∧w'.cell? ⟨B+1,0,none⟩=some (.bool mb)∧w'.cell? ⟨B+1,1,none⟩=some (.slice bo m cb))
    (first | exact ⟨k0,k1',l0,l1'⟩ | exact ⟨x1.c0,x1.c1,v1.c0,v1.c1⟩ | exact ⟨x2.c0,x2.c1,v2.c0,v2.c1⟩ | (refine ⟨?_,?_,?_,?_⟩ <;> go_simp))
    (first
      | (go_at_call 176;clear TAG;refine (refTrim_any ao n ca zs _ (by exact hs0.drew)).mono ?_;rintro e w1 ⟨xo,xk,xc,rfl,hx1,hxk,hw1⟩;have x1:=hbx.drew.below hw1;have v1:=hby.drew.below hw1;have y1:=hrx.drew.below hw1;have e0:=x1.c0;have e1:=x1.c1;have e2:=v1.c0;have e3:=v1.c1)
      | (go_at_call 176;refine (refTrim_any bo m cb ys _ (by exact hu0.drew.below hw1)).mono ?_;rintro e w2 ⟨yo,yk,yc,rfl,hy2,hyk,hw2⟩;have hx2:=hx1.below hw2;have x2:=x1.below hw2;have v2:=v1.below hw2;have y2:=y1.below hw2;clear e0 e1 e2 e3;have e0:=x2.c0;have e1:=x2.c1;have e2:=v2.c0;have e3:=v2.c1))
  obtain ⟨b1,l1⟩:=bnext hBelow.out (by omega) (Below.refl _ W).drew
  obtain ⟨b2,l2⟩:=bnext b1 l1 hw1
  obtain ⟨b3,l3⟩:=bnext b2 l2 hw2
  have hEx0:=Lib.hid b3
  rw [EA.out] at hx2
  rw [EB.out] at hy2
  have hxa:num zs=(a:Int):=by rw [←EA.out,Int.toNat_of_nonneg hz0]
  have hyb:num ys=(b:Int):=by rw [←EB.out,Int.toNat_of_nonneg hy0]
  have HXA:=Lib.hid hxa;clear hxa
  have HYB:=Lib.hid hyb;clear hyb
  have hx2b:=hx2.big
  clear b1 b2 b3 hw1 hw2 hbx hby hrx hBelow k0 k1' l0 l1' x1 v1 y1 hx1 hs0 hu0
  by_cases hne:nb=mb
  · subst hne
    have hbb:(nb == nb)=true:=by cases nb <;> rfl
    go_wp2_with fail
    have x2:=x2.drew
    have v2:=v2.drew
    have y2:=y2.drew
    go_region_held3 (fun w'=>w'.cell? ⟨B,0,none⟩=some (.bool nb)∧w'.cell? ⟨B,1,none⟩=some (.slice ao n ca)∧w'.cell? ⟨B+1,0,none⟩=some (.bool nb)∧w'.cell? ⟨B+1,1,none⟩=some (.slice bo m cb))
      (first | exact ⟨x2.c0,x2.c1,v2.c0,v2.c1⟩ | exact ⟨x3.c0,x3.c1,v3.c0,v3.c1⟩ | exact ⟨x4.c0,x4.c1,v4.c0,v4.c1⟩ | (refine ⟨?_,?_,?_,?_⟩ <;> go_simp))
      (first
        | (go_at_call 178;refine (refAddMag_any _ _ _ _ _ _ _ _ _ (by exact hx2.drew) (by exact hy2.drew) (by omega) (by omega)).mono ?_;rintro e w3 ⟨po,pk,pc,L,rfl,hp3,hpn,rfl,hw3⟩;have x3:=x2.below hw3;have v3:=v2.below hw3;have y3:=y2.below hw3;clear e0 e1 e2 e3;have e0:=x3.c0;have e1:=x3.c1;have e2:=v3.c0;have e3:=v3.c1)
        | (go_at_call 177;refine (make1_any nb _ _ _ L _ (by exact hp3)).mono ?_;rintro e w4 ⟨nr,ro,k,rc,rfl,hs4,hk,hw4⟩;have x4:=x3.below hw4;have v4:=v3.below hw4;have y4:=y3.below hw4;clear e0 e1 e2 e3;have e0:=x4.c0;have e1:=x4.c1;have e2:=v4.c0;have e3:=v4.c1;have q0:=y4.c0;have q1:=y4.c1;have q2:=y4.f 0;have q3:=y4.f 1))
    obtain ⟨b1,l1⟩:=bnext hEx0.out (Nat.le_of_lt x2.lt) (Below.refl _ _).drew
    obtain ⟨b2,l2⟩:=bnext b1 l1 hw3
    obtain ⟨b3,l3⟩:=bnext b2 l2 hw4
    have hEx:=Lib.hid b3
    have HV:Hid (x+y=sgd nb L):=Lib.hid (by
      rw [hx'.out,hy'.out]
      exact sgd_plus (by rw [hpn,num_limbs,num_limbs,HXA.out,HYB.out]))
    clear b1 b2 b3 hw3 hw4 x2 x3 x4 v2 v3 v4 y2 y3 hp3 hpn
    have hst:=y4.stored nr ro k rc
    have u0:=hst.c0
    have u1:=hst.c1
    have HRES:=Lib.hid (show Bn ((w4.setCell ⟨B+1+1,0,none⟩ (.bool nr)).setCell ⟨B+1+1,1,none⟩ (.slice ro k rc)) nr ro k rc (x+y) from by
      rw [HV.out];exact ⟨hs4.neg,hs4.sl.only_box y4 (only_set2 _ _ _ _)⟩)
    have HBL:=Lib.hid (hEx.out.trans ((only_set2 w4 (B+1+1) (.bool nr) (.slice ro k rc)).below (by omega)))
    clear hs4 hst
    go_wp2
    refine bodyPost_ret (v:=.agg #[.bool nr,.slice ro k rc]) (by simp [results,Tryz.results135,go_sem,u0,u1]) rfl ⟨_,ro,k,rc,rfl,HRES.out,?_⟩
    rw [Ext,HBe.out];exact HBL.out
  · have hbb:(nb == mb)=false:=by cases nb <;> cases mb <;> simp at hne ⊢
    have HNE:=Lib.hid hne;clear hne
    by_cases hab:b≤a
    · have hc:=sgn3_ge hab
      go_wp2_with fail
      refine (refCmpMag_any a b _ _ _ _ _ _ _ hx2 hy2).mono ?_
      rintro e wq ⟨rfl,q,rfl⟩
      have x2:=x2.drewN q
      have v2:=v2.drewN q
      have y2:=y2.drewN q
      have hx2:=hx2.drewN q
      have hy2:=hy2.drewN q
      have hEx0:=Lib.hid (below_drewN hEx0.out q)
      have hl:yk≤xk:=by have:=limbs_mono hab;rw [hx2.len,hy2.len] at this;exact this
      go_wp2_with fail
      have x2:=x2.drew
      have v2:=v2.drew
      have y2:=y2.drew
      go_region_held3 (fun w'=>w'.cell? ⟨B,0,none⟩=some (.bool nb)∧w'.cell? ⟨B,1,none⟩=some (.slice ao n ca)∧w'.cell? ⟨B+1,0,none⟩=some (.bool mb)∧w'.cell? ⟨B+1,1,none⟩=some (.slice bo m cb))
        (first | exact ⟨x2.c0,x2.c1,v2.c0,v2.c1⟩ | exact ⟨x3.c0,x3.c1,v3.c0,v3.c1⟩ | exact ⟨x4.c0,x4.c1,v4.c0,v4.c1⟩ | (refine ⟨?_,?_,?_,?_⟩ <;> go_simp))
        (first
          | (go_at_call 180;refine (refSubMag_any _ _ _ _ _ _ _ _ _ (by exact hx2.drew) (by exact hy2.drew) (by omega) hl (by rw [num_limbs,num_limbs];omega)).mono ?_;rintro e w3 ⟨po,pk,pc,L,rfl,hp3,hpn,rfl,hw3⟩;have x3:=x2.below hw3;have v3:=v2.below hw3;have y3:=y2.below hw3;clear e0 e1 e2 e3;have e0:=x3.c0;have e1:=x3.c1;have e2:=v3.c0;have e3:=v3.c1)
          | (go_at_call 177;refine (make1_any nb _ _ _ L _ (by exact hp3)).mono ?_;rintro e w4 ⟨nr,ro,k,rc,rfl,hs4,hk,hw4⟩;have x4:=x3.below hw4;have v4:=v3.below hw4;have y4:=y3.below hw4;clear e0 e1 e2 e3;have e0:=x4.c0;have e1:=x4.c1;have e2:=v4.c0;have e3:=v4.c1;have q0:=y4.c0;have q1:=y4.c1;have q2:=y4.f 0;have q3:=y4.f 1))
      obtain ⟨b1,l1⟩:=bnext hEx0.out (Nat.le_of_lt x2.lt) (Below.refl _ _).drew
      obtain ⟨b2,l2⟩:=bnext b1 l1 hw3
      obtain ⟨b3,l3⟩:=bnext b2 l2 hw4
      have hEx:=Lib.hid b3
      have HV:Hid (x+y=sgd nb L):=Lib.hid (by
        rw [hx'.out,hy'.out]
        exact (sgd_less HNE.out (by rw [hpn,num_limbs,num_limbs,HXA.out,HYB.out])).1)
      clear b1 b2 b3 hw3 hw4 x2 x3 x4 v2 v3 v4 y2 y3 hp3 hpn
      have hst:=y4.stored nr ro k rc
      have u0:=hst.c0
      have u1:=hst.c1
      have HRES:=Lib.hid (show Bn ((w4.setCell ⟨B+1+1,0,none⟩ (.bool nr)).setCell ⟨B+1+1,1,none⟩ (.slice ro k rc)) nr ro k rc (x+y) from by
        rw [HV.out];exact ⟨hs4.neg,hs4.sl.only_box y4 (only_set2 _ _ _ _)⟩)
      have HBL:=Lib.hid (hEx.out.trans ((only_set2 w4 (B+1+1) (.bool nr) (.slice ro k rc)).below (by omega)))
      clear hs4 hst
      go_wp2
      refine bodyPost_ret (v:=.agg #[.bool nr,.slice ro k rc]) (by simp [results,Tryz.results135,go_sem,u0,u1]) rfl ⟨_,ro,k,rc,rfl,HRES.out,?_⟩
      rw [Ext,HBe.out];exact HBL.out
    · have hc:=sgn3_lt hab
      go_wp2_with fail
      refine (refCmpMag_any a b _ _ _ _ _ _ _ hx2 hy2).mono ?_
      rintro e wq ⟨rfl,q,rfl⟩
      have x2:=x2.drewN q
      have v2:=v2.drewN q
      have y2:=y2.drewN q
      have hx2:=hx2.drewN q
      have hy2:=hy2.drewN q
      have hEx0:=Lib.hid (below_drewN hEx0.out q)
      have hl:xk≤yk:=by have:=limbs_mono (show a≤b by omega);rw [hx2.len,hy2.len] at this;exact this
      go_wp2_with fail
      have x2:=x2.drew
      have v2:=v2.drew
      have y2:=y2.drew
      go_region_held3 (fun w'=>w'.cell? ⟨B,0,none⟩=some (.bool nb)∧w'.cell? ⟨B,1,none⟩=some (.slice ao n ca)∧w'.cell? ⟨B+1,0,none⟩=some (.bool mb)∧w'.cell? ⟨B+1,1,none⟩=some (.slice bo m cb))
        (first | exact ⟨x2.c0,x2.c1,v2.c0,v2.c1⟩ | exact ⟨x3.c0,x3.c1,v3.c0,v3.c1⟩ | exact ⟨x4.c0,x4.c1,v4.c0,v4.c1⟩ | (refine ⟨?_,?_,?_,?_⟩ <;> go_simp))
        (first
          | (go_at_call 180;refine (refSubMag_any _ _ _ _ _ _ _ _ _ (by exact hy2.drew) (by exact hx2.drew) (by omega) hl (by rw [num_limbs,num_limbs];omega)).mono ?_;rintro e w3 ⟨po,pk,pc,L,rfl,hp3,hpn,rfl,hw3⟩;have x3:=x2.below hw3;have v3:=v2.below hw3;have y3:=y2.below hw3;clear e0 e1 e2 e3;have e0:=x3.c0;have e1:=x3.c1;have e2:=v3.c0;have e3:=v3.c1)
          | (go_at_call 177;refine (make1_any mb _ _ _ L _ (by exact hp3)).mono ?_;rintro e w4 ⟨nr,ro,k,rc,rfl,hs4,hk,hw4⟩;have x4:=x3.below hw4;have v4:=v3.below hw4;have y4:=y3.below hw4;clear e0 e1 e2 e3;have e0:=x4.c0;have e1:=x4.c1;have e2:=v4.c0;have e3:=v4.c1;have q0:=y4.c0;have q1:=y4.c1;have q2:=y4.f 0;have q3:=y4.f 1))
      obtain ⟨b1,l1⟩:=bnext hEx0.out (Nat.le_of_lt x2.lt) (Below.refl _ _).drew
      obtain ⟨b2,l2⟩:=bnext b1 l1 hw3
      obtain ⟨b3,l3⟩:=bnext b2 l2 hw4
      have hEx:=Lib.hid b3
      have HV:Hid (x+y=sgd mb L):=Lib.hid (by
        rw [hx'.out,hy'.out]
        exact (sgd_less (Ne.symm HNE.out) (by rw [hpn,num_limbs,num_limbs,HXA.out,HYB.out])).2)
      clear b1 b2 b3 hw3 hw4 x2 x3 x4 v2 v3 v4 y2 y3 hp3 hpn
      have hst:=y4.stored nr ro k rc
      have u0:=hst.c0
      have u1:=hst.c1
      have HRES:=Lib.hid (show Bn ((w4.setCell ⟨B+1+1,0,none⟩ (.bool nr)).setCell ⟨B+1+1,1,none⟩ (.slice ro k rc)) nr ro k rc (x+y) from by
        rw [HV.out];exact ⟨hs4.neg,hs4.sl.only_box y4 (only_set2 _ _ _ _)⟩)
      have HBL:=Lib.hid (hEx.out.trans ((only_set2 w4 (B+1+1) (.bool nr) (.slice ro k rc)).below (by omega)))
      clear hs4 hst
      go_wp2
      refine bodyPost_ret (v:=.agg #[.bool nr,.slice ro k rc]) (by simp [results,Tryz.results135,go_sem,u0,u1]) rfl ⟨_,ro,k,rc,rfl,HRES.out,?_⟩
      rw [Ext,HBe.out];exact HBL.out
open Go.RowKit
theorem box_two (w:World) (lo hi:Int) (h0:0≤lo∧lo<4294967296) (h1:0≤hi∧hi<4294967296) :
    ∃ W,W=(w.alloc (.cells #[.bool false,.slice none 0 0] 36)).alloc (.cells #[.int .u32 lo,.int .u32 hi] 72)∧Below w.heap.size w W∧Box W w.heap.size false none 0 0∧Sl W (some ⟨w.heap.size+1,0,none⟩) 2 2 [lo,hi]∧w.heap.size+2≤W.heap.size:=by
  refine ⟨_,rfl,((Below.refl _ w).alloc (Nat.le_refl _) _).alloc (by simp) _,?_,?_,by simp⟩
  · exact (Box.new w false none 0 0).below ((Below.refl _ _).alloc (Nat.le_refl _) _)
  · have hb:Blk ((w.alloc (.cells #[.bool false,.slice none 0 0] 36)).alloc (.cells #[.int .u32 lo,.int .u32 hi] 72)) (w.heap.size+1) [lo,hi]:=by
      have:=heap_alloc_new (w.alloc (.cells #[.bool false,.slice none 0 0] 36)) (.cells #[.int .u32 lo,.int .u32 hi] 72)
      simpa [Blk] using this
    exact hb.sl (Wf.cons h0 (Wf.cons h1 Wf.nil)) rfl (by omega) (Nat.le_refl _)
set_option maxRecDepth 100000 in
set_option maxHeartbeats 1000000 in
theorem refFromInt_any (x:Int) (w:World) (h0 : -9223372036854775808≤x) (h1:x≤9223372036854775807) :
    Calls Tryz.prog 149 #[.int .i64 x] w fun e w'=>∃ nr ro k cr,e=.returned (.agg #[.bool nr,.slice ro k cr])∧Bn w' nr ro k cr x∧Ext w w':=by
  by_cases hx:x<0
  · have hv0:0≤-(x+1)+1:=by omega
    have hv1 : -(x+1)+1≤9223372036854775808:=by omega
    go_enter Tryz.func149,Tryz.ntmps149
    go_wp2_with fail
    obtain ⟨W,hW,hB,hbx,hsl,hz⟩:=box_two w ((-(x+1)+1) % 4294967296) ((-(x+1)+1) / 4294967296) (by omega) (by omega)
    rw [←hW]
    clear hW
    generalize hBe:w.heap.size=B at *
    have HBe:=Lib.hid hBe;clear hBe
    have hnum:sgd true [(-(x+1)+1) % 4294967296,(-(x+1)+1) / 4294967296]=x:=by
      unfold sgd
      rw [num_two]
      simp <;> omega
    refine (make1_any true _ _ _ _ W hsl).mono ?_
    rintro e w1 ⟨nr,ro,k,rc,rfl,hs1,hk,hw1⟩
    rw [hnum] at hs1
    have b1:=hbx.below hw1
    obtain ⟨h1,z1⟩:=bnext hB (by omega) hw1
    have q0:=b1.c0
    have q1:=b1.c1
    have q2:=b1.f 0
    have q3:=b1.f 1
    have hst:=b1.stored nr ro k rc
    have u0:=hst.c0
    have u1:=hst.c1
    have HRES:=Lib.hid (show Bn ((w1.setCell ⟨B,0,none⟩ (.bool nr)).setCell ⟨B,1,none⟩ (.slice ro k rc)) nr ro k rc x from ⟨hs1.neg,hs1.sl.only_box b1 (only_set2 _ _ _ _)⟩)
    have HBL:=Lib.hid (h1.trans ((only_set2 w1 B (.bool nr) (.slice ro k rc)).below (Nat.le_refl B)))
    clear hnum hs1 h1 hw1 hB hbx hsl hst
    go_wp2
    refine bodyPost_ret (v:=.agg #[.bool nr,.slice ro k rc]) (by simp [results,Tryz.results149,go_sem,u0,u1]) rfl ⟨_,ro,k,rc,rfl,HRES.out,?_⟩
    rw [Ext,HBe.out];exact HBL.out
  · have hv0:0≤x:=by omega
    have hv1:x≤9223372036854775808:=by omega
    go_enter Tryz.func149,Tryz.ntmps149
    go_wp2_with fail
    obtain ⟨W,hW,hB,hbx,hsl,hz⟩:=box_two w ((x) % 4294967296) ((x) / 4294967296) (by omega) (by omega)
    rw [←hW]
    clear hW
    generalize hBe:w.heap.size=B at *
    have HBe:=Lib.hid hBe;clear hBe
    have hnum:sgd false [(x) % 4294967296,(x) / 4294967296]=x:=by
      unfold sgd
      rw [num_two]
      simp <;> omega
    refine (make1_any false _ _ _ _ W hsl).mono ?_
    rintro e w1 ⟨nr,ro,k,rc,rfl,hs1,hk,hw1⟩
    rw [hnum] at hs1
    have b1:=hbx.below hw1
    obtain ⟨h1,z1⟩:=bnext hB (by omega) hw1
    have q0:=b1.c0
    have q1:=b1.c1
    have q2:=b1.f 0
    have q3:=b1.f 1
    have hst:=b1.stored nr ro k rc
    have u0:=hst.c0
    have u1:=hst.c1
    have HRES:=Lib.hid (show Bn ((w1.setCell ⟨B,0,none⟩ (.bool nr)).setCell ⟨B,1,none⟩ (.slice ro k rc)) nr ro k rc x from ⟨hs1.neg,hs1.sl.only_box b1 (only_set2 _ _ _ _)⟩)
    have HBL:=Lib.hid (h1.trans ((only_set2 w1 B (.bool nr) (.slice ro k rc)).below (Nat.le_refl B)))
    clear hnum hs1 h1 hw1 hB hbx hsl hst
    go_wp2
    refine bodyPost_ret (v:=.agg #[.bool nr,.slice ro k rc]) (by simp [results,Tryz.results149,go_sem,u0,u1]) rfl ⟨_,ro,k,rc,rfl,HRES.out,?_⟩
    rw [Ext,HBe.out];exact HBL.out
open Go.RowKit
def fitsI (x:Int):Bool:=decide (-9223372036854775808≤x∧x≤9223372036854775807)
def intOut (x:Int):Int:=if -9223372036854775808≤x∧x≤9223372036854775807 then x else 0
theorem fits_yes {x:Int} (h : -9223372036854775808≤x∧x≤9223372036854775807):fitsI x=true∧intOut x=x:=⟨decide_eq_true h,if_pos h⟩
theorem fits_no {x:Int} (h:¬ (-9223372036854775808≤x∧x≤9223372036854775807)):fitsI x=false∧intOut x=0:=⟨decide_eq_false h,if_neg h⟩
open Go.RowKit
def lowW (a j:Nat):Int:=((a % 4294967296^j:Nat):Int)
theorem lowW_zero (a:Nat):lowW a 0=0:=by unfold lowW;rw [Nat.pow_zero,Nat.mod_one];rfl
theorem lowW_one {a:Nat}:lowW a 1=(limbs a).getD 0 0:=by
  rw [limbs_at,Nat.pow_zero,Nat.div_one,lowW,Nat.pow_one]
theorem lowW_two {a:Nat}:lowW a 2=(limbs a).getD 0 0+(limbs a).getD 1 0*4294967296:=by
  rw [limbs_at,limbs_at,Nat.pow_zero,Nat.div_one,Nat.pow_one]
  unfold lowW
  rw [show (4294967296:Nat)^2=4294967296*4294967296 from rfl]
  omega
theorem lowW_all {a k:Nat} (h:(limbs a).length=k):lowW a k=(a:Int):=by
  have h1:=(limbs_len_le a k).1 (by omega)
  unfold lowW
  rw [Nat.mod_eq_of_lt h1]
theorem or_none64 {y:Int} (y0:0≤y) (y1:y<4294967296):bits BinOp.or IntKind.u64 0 y=y:=by
  obtain ⟨a,rfl⟩:=Int.eq_ofNat_of_zero_le y0
  have e:=bits_or_u64_nat 0 a (by omega) (by omega)
  rw [Nat.zero_or] at e
  exact e
set_option maxRecDepth 100000 in
set_option maxHeartbeats 2000000 in
theorem refInt_any (nb:Bool) (ao:Option Addr) (n ca:Nat) (x:Int) (w:World) (h:Bg w nb ao n ca x) :
    Calls Tryz.prog 187 #[.agg #[.bool nb,.slice ao n ca]] w fun e w'=>e=.returned (.tuple #[.int .i64 (intOut x),.bool (fitsI x)])∧Ext w w':=by
  obtain ⟨ro,hro⟩:∃ v:Value,v=.int .i64 (intOut x):=⟨_,rfl⟩
  obtain ⟨rb,hrb⟩:∃ v:Value,v=.bool (fitsI x):=⟨_,rfl⟩
  rw [←hro,←hrb]
  have HRO:=Lib.hid hro;clear hro
  have HRB:=Lib.hid hrb;clear hrb
  go_enter Tryz.func187,Tryz.ntmps187
  go_wp2_with fail
  obtain ⟨W,hW,hB,hbx,hsz⟩:=box_new w nb ao n ca
  rw [←hW]
  clear hW
  have h0:=h.below hB
  generalize hBe:w.heap.size=B at *
  have HBe:=Lib.hid hBe;clear hBe h
  have k0:=hbx.c0
  have k1:=hbx.c1
  go_wp2_with fail
  refine (refNorm_any nb ao n ca x W h0).mono ?_
  rintro e w1 ⟨nr,xo,k,rc,rfl,hs1,hk,hw1⟩
  have b1:=hbx.below hw1
  obtain ⟨h1,z1⟩:=bnext hB (by omega) hw1
  have q0:=b1.c0
  have q1:=b1.c1
  have q2:=b1.f 0
  have q3:=b1.f 1
  have bst:=b1.stored nr xo k rc
  have u0:=bst.c0
  have u1:=bst.c1
  have hsl:=hs1.sl.only_box b1 (only_set2 w1 B (.bool nr) (.slice xo k rc))
  have HBL:=Lib.hid (h1.trans ((only_set2 w1 B (.bool nr) (.slice xo k rc)).below (Nat.le_refl B)))
  have HN:=Lib.hid hs1.neg
  generalize hW2:(w1.setCell ⟨B,0,none⟩ (.bool nr)).setCell ⟨B,1,none⟩ (.slice xo k rc)=W2 at *
  have HW2:=Lib.hid hW2
  clear h0 hB hbx k0 k1 h1 hw1 b1 bst hs1
  have hkb:=hsl.big
  have hxl:=hsl.len
  go_upto_region 2 with fail
  clear hW2 q0 q1 q2 q3
  obtain ⟨a,ha⟩:∃ a,x.natAbs=a:=⟨_,rfl⟩
  rw [ha] at hsl hxl
  have HXL:=Lib.hid hxl;clear hxl
  have hxa:x=if nr then -(a:Int) else (a:Int):=by
    rw [HN.out]
    by_cases hx:x<0
    · simp only [hx,decide_true,if_true];omega
    · simp only [hx,decide_false,Bool.false_eq_true,if_false];omega
  have hxn:nr=true→a≠0:=by
    intro e;rw [HN.out] at e;simp at e;omega
  have HXA:=Lib.hid hxa;clear hxa
  have HXN:=Lib.hid hxn;clear hxn ha
  by_cases hk2:k≤2
  · have hlt:=(limbs_len_le a 2).1 (by rw [HXL.out];exact hk2)
    have hal:a<18446744073709551616:=hlt
    clear hlt
    go_wp2
    go_loopw [4,5] (fun u i wr=>∃ j:Nat,j≤k∧i=.int .i64 j∧u=.int .u64 (lowW a j)∧wr=W2) (fun _ i _=>k - (intOf i).toNat)
    case atStart=>exact ⟨0,Nat.zero_le _,rfl,by rw [lowW_zero],rfl⟩
    case round =>
      obtain ⟨j,hj,rfl,rfl,rfl⟩:=hrel
      by_cases hlt:j<k
      · obtain ⟨b,off,e0,hc⟩:=hsl.cells (by rw [HXL.out];omega)
        subst e0
        have c1:=hc j (by rw [HXL.out];omega)
        have hyr:=(Wf.limbs a).getD j
        clear hc
        obtain ⟨y,hy⟩:∃ y,(limbs a).getD j 0=y:=⟨_,rfl⟩
        rw [hy] at c1 hyr
        obtain ⟨y0,y1⟩:=hyr
        have HY:=Lib.hid hy;clear hy
        rcases (show j=0∨j=1 by omega) with h | h
        · subst h
          have hor:=or_none64 y0 y1
          rw [lowW_zero]
          rw [Nat.add_zero] at c1
          go_wp2
          go_roundw
          case rel=>exact ⟨1,by omega,by go_num,by rw [lowW_one,HY.out],by first | rfl | trivial⟩
          case measure=>simp [intOf] <;> omega
        · subst h
          obtain ⟨z,hz⟩:∃ z,lowW a 1=z:=⟨_,rfl⟩
          have hzr:=(Wf.limbs a).getD 0
          rw [←lowW_one,hz] at hzr
          have hor:=or64 hzr.1 hzr.2 y0 y1
          rw [hz]
          have HZ:=Lib.hid hz;clear hz
          go_wp2
          go_roundw
          case rel=>exact ⟨2,by omega,by go_num,by rw [lowW_two,HY.out,←lowW_one,HZ.out],by first | rfl | trivial⟩
          case measure=>simp [intOf] <;> omega
      · obtain rfl:j=k:=by omega
        rw [lowW_all HXL.out]
        clear hsl
        by_cases h63:a≤9223372036854775807
        · cases nr with
          | true =>
            have hy:=fits_yes (x:=x) (by have:=HXA.out;simp only [if_true] at this;omega)
            have hx2:x = -(a:Int):=HXA.out
            have ha0:=HXN.out rfl
            have HY:=Lib.hid hy;clear hy
            have HX2:=Lib.hid hx2;clear hx2
            go_wp2
            go_ret2
            refine ⟨?_,by rw [Ext,HBe.out];exact HBL.out⟩
            rw [HRO.out,HRB.out,HY.out.1,HY.out.2,HX2.out,show -(a:Int) = -((a:Int) - 1) - 1 by omega];rfl
          | false =>
            have hy:=fits_yes (x:=x) (by have:=HXA.out;simp only [Bool.false_eq_true,if_false] at this;omega)
            have hx2:x=(a:Int):=HXA.out
            have HY:=Lib.hid hy;clear hy
            have HX2:=Lib.hid hx2;clear hx2
            go_wp2
            go_ret2
            refine ⟨?_,by rw [Ext,HBe.out];exact HBL.out⟩
            rw [HRO.out,HRB.out,HY.out.1,HY.out.2,HX2.out];rfl
        · cases nr with
          | true =>
            by_cases h64:a=9223372036854775808
            · subst h64
              have hx:x = -9223372036854775808:=by have:=HXA.out;simp only [if_true] at this;omega
              have HX:=Lib.hid hx;clear hx
              go_wp2
              go_ret2
              refine ⟨?_,by rw [Ext,HBe.out];exact HBL.out⟩
              rw [HRO.out,HRB.out,HX.out];rfl
            · have hy:=fits_no (x:=x) (by have:=HXA.out;simp only [if_true] at this;omega)
              have HY:=Lib.hid hy;clear hy
              go_wp2
              go_ret2
              refine ⟨?_,by rw [Ext,HBe.out];exact HBL.out⟩
              rw [HRO.out,HRB.out,HY.out.1,HY.out.2];rfl
          | false =>
            have hy:=fits_no (x:=x) (by have:=HXA.out;simp only [Bool.false_eq_true,if_false] at this;omega)
            have HY:=Lib.hid hy;clear hy
            go_wp2
            go_ret2
            refine ⟨?_,by rw [Ext,HBe.out];exact HBL.out⟩
            rw [HRO.out,HRB.out,HY.out.1,HY.out.2];rfl
  · have h9:¬ a<4294967296^2:=by
      have:=limbs_len_le a 2
      rw [HXL.out] at this
      omega
    have h10:¬ a<18446744073709551616:=h9
    have hy:=fits_no (x:=x) (by have:=HXA.out;cases nr <;> simp only [Bool.false_eq_true,if_false,if_true] at this <;> omega)
    have HY:=Lib.hid hy;clear hy h9 h10 hsl
    go_wp2
    go_ret2
    refine ⟨?_,by rw [Ext,HBe.out];exact HBL.out⟩
    rw [HRO.out,HRB.out,HY.out.1,HY.out.2];rfl
open Go.RowKit
section
variable {W w:World} {L:List Ent} {u v:Value} {x y:Int} {N M:Nat} {c d:Bool}
end
theorem box_pair (w:World) (nb:Bool) (ao:Option Addr) (n ca:Nat) (mb:Bool) (bo:Option Addr) (m cb:Nat) :
    ∃ W,W=(w.alloc (.cells #[.bool nb,.slice ao n ca] 36)).alloc (.cells #[.bool mb,.slice bo m cb] 36)∧Ext w W∧Box W w.heap.size nb ao n ca∧Box W (w.heap.size+1) mb bo m cb:=by
  refine ⟨_,rfl,((Below.refl _ w).alloc (Nat.le_refl _) _).alloc (by simp) _,?_,?_⟩
  · exact (Box.new w nb ao n ca).below ((Below.refl _ _).alloc (Nat.le_refl _) _)
  · have:=Box.new (w.alloc (.cells #[.bool nb,.slice ao n ca] 36)) mb bo m cb
    simpa using this
set_option maxRecDepth 100000 in
set_option maxHeartbeats 4000000 in
theorem refSub_any (nb mb:Bool) (ao:Option Addr) (n ca:Nat) (bo:Option Addr) (m cb:Nat) (x y:Int) (w:World) (ha:Bg w nb ao n ca x) (hb:Bg w mb bo m cb y) :
    Calls Tryz.prog 204 #[.agg #[.bool nb,.slice ao n ca],.agg #[.bool mb,.slice bo m cb]] w fun e w'=>∃ nr ro k cr,e=.returned (.agg #[.bool nr,.slice ro k cr])∧Bn w' nr ro k cr (x - y)∧Ext w w':=by
  go_enter Tryz.func204,Tryz.ntmps204
  go_wp2_with fail
  obtain ⟨W,hW,hB,hbx,hby,hrx,hz⟩:=boxes2 w nb ao n ca mb bo m cb
  rw [←hW]
  clear hW
  have ha0:=ha.below hB
  have hb0:=hb.below hB
  generalize hBe:w.heap.size=B at *
  have HBe:=Lib.hid hBe;clear hBe
  have hBelow:=Lib.hid hB
  clear ha hb hB
  have k0:=hbx.c0
  have k1':=hbx.c1
  have l0:=hby.c0
  have l1':=hby.c1
  go_region_held3 (fun w'=>w'.cell? ⟨B,0,none⟩=some (.bool nb)∧w'.cell? ⟨B,1,none⟩=some (.slice ao n ca)∧w'.cell? ⟨B+1,0,none⟩=some (.bool mb)∧w'.cell? ⟨B+1,1,none⟩=some (.slice bo m cb))
    (first | exact ⟨k0,k1',l0,l1'⟩ | exact ⟨x1.c0,x1.c1,v1.c0,v1.c1⟩ | exact ⟨x2.c0,x2.c1,v2.c0,v2.c1⟩ | (refine ⟨?_,?_,?_,?_⟩ <;> go_simp))
    (first
      | (go_at_call 209;refine (refNeg_any mb bo m cb y _ (by exact hb0.drew)).mono ?_;rintro e w1 ⟨gn,go',gk,gc,rfl,hg1,hgk,hw1⟩;have x1:=hbx.drew.below hw1;have v1:=hby.drew.below hw1;have y1:=hrx.drew.below hw1;have e0:=x1.c0;have e1:=x1.c1;have e2:=v1.c0;have e3:=v1.c1)
      | (go_at_call 135;refine (refAdd_any nb gn ao n ca go' gk gc x (-y) _ (by exact ha0.drew.below hw1) (by exact hg1.bg (Nat.le_trans hgk hb0.small))).mono ?_;rintro e w2 ⟨nr,ro,k,rc,rfl,hs2,hw2⟩;have x2:=x1.below hw2;have v2:=v1.below hw2;have y2:=y1.below hw2;clear e0 e1 e2 e3;have e0:=x2.c0;have e1:=x2.c1;have e2:=v2.c0;have e3:=v2.c1;have q0:=y2.c0;have q1:=y2.c1;have q2:=y2.f 0;have q3:=y2.f 1))
  obtain ⟨b1,l1⟩:=bnext hBelow.out (by omega) (Below.refl _ W).drew
  obtain ⟨b2,l2⟩:=bnext b1 l1 hw1
  obtain ⟨b3,l3⟩:=bnext b2 l2 hw2
  have hst:=y2.stored nr ro k rc
  have u0:=hst.c0
  have u1:=hst.c1
  have HRES:=Lib.hid (show Bn ((w2.setCell ⟨B+1+1,0,none⟩ (.bool nr)).setCell ⟨B+1+1,1,none⟩ (.slice ro k rc)) nr ro k rc (x - y) from by
    rw [Int.sub_eq_add_neg];exact ⟨hs2.neg,hs2.sl.only_box y2 (only_set2 _ _ _ _)⟩)
  have HBL:=Lib.hid (b3.trans ((only_set2 w2 (B+1+1) (.bool nr) (.slice ro k rc)).below (by omega)))
  clear b1 b2 b3 hw1 hw2 hs2 hg1 hst ha0 hb0
  go_wp2
  refine bodyPost_ret (v:=.agg #[.bool nr,.slice ro k rc]) (by simp [results,Tryz.results204,go_sem,u0,u1]) rfl ⟨_,ro,k,rc,rfl,HRES.out,?_⟩
  rw [Ext,HBe.out];exact HBL.out
theorem sgn3_sub (x y:Int):sgn3 (x - y) 0=sgn3 x y:=by unfold sgn3;split <;> split <;> (try split) <;> omega
set_option maxRecDepth 100000 in
set_option maxHeartbeats 4000000 in
theorem refCmp_any (nb mb:Bool) (ao:Option Addr) (n ca:Nat) (bo:Option Addr) (m cb:Nat) (x y:Int) (w:World) (ha:Bg w nb ao n ca x) (hb:Bg w mb bo m cb y) (hn:n≤100000) (hm:m≤100000) :
    Calls Tryz.prog 181 #[.agg #[.bool nb,.slice ao n ca],.agg #[.bool mb,.slice bo m cb]] w fun e w'=>e=.returned (.int .i64 (sgn3 x y))∧Ext w w':=by
  have hk:∀ (w':World) (nr:Bool) (ro:Option Addr) (k rc:Nat),Bn w' nr ro k rc (x - y)→k≤1000000000:=by
    intro w' nr ro k rc h
    obtain ⟨⟨zs,hz,hx⟩,_⟩:=ha
    obtain ⟨⟨ys,hy,hyy⟩,_⟩:=hb
    have h1:=ok_raw (nb:=nb) hz 100000 hn (by omega)
    have h2:=ok_raw (nb:=mb) hy 100000 hm (by omega)
    obtain ⟨_,_,_,_,_,_,_,a1,_⟩:=h1
    obtain ⟨_,_,_,_,_,_,_,a2,_⟩:=h2
    simp only at a1 a2
    rw [←hx] at a1
    rw [←hyy] at a2
    have h3:=len_of_lt (abs_sub a1 a2)
    rw [h.sl.len] at h3
    omega
  have HK:=Lib.hid hk;clear hk
  go_enter Tryz.func181,Tryz.ntmps181
  go_wp2_with fail
  obtain ⟨W,hW,hB,hbx,hby⟩:=box_pair w nb ao n ca mb bo m cb
  rw [←hW]
  clear hW
  have ha0:=ha.below hB
  have hb0:=hb.below hB
  have HB:=Lib.hid hB
  generalize hBe:w.heap.size=B at *
  clear ha hb hB hBe
  have k0:=hbx.c0
  have k1':=hbx.c1
  have l0:=hby.c0
  have l1':=hby.c1
  go_wp2_with fail
  refine (refSub_any nb mb ao n ca bo m cb x y W ha0 hb0).mono ?_
  rintro e w1 ⟨nr,ro,k,rc,rfl,hs1,hw1⟩
  go_wp2_with fail
  refine (refSign_any nr ro k rc (x - y) _ (hs1.bg (HK.out _ _ _ _ _ hs1))).mono ?_
  rintro e w2 ⟨rfl,hw2⟩
  go_wp2
  go_ret
  exact ⟨by rw [sgn3_sub];rfl,HB.out.trans (Ext.trans hw1 hw2)⟩
section
variable {W w:World} {L:List Ent} {u v:Value} {x y:Int} {N M:Nat} {c d:Bool}
end
end Go.Proofs.YtkomhemjodbkpaaGreatDoor
