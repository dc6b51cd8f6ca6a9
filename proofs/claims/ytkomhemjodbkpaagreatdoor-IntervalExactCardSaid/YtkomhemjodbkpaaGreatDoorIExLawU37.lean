import Derived.Test.YtkomhemjodbkpaaGreatDoorIExLawU36
import Derived.Test.YtkomhemjodbkpaaGreatDoorIExLawU28
import Derived.Test.YtkomhemjodbkpaaGreatDoorIExLawU27
import Derived.Test.YtkomhemjodbkpaaGreatDoorIExLawU26
import Derived.Test.YtkomhemjodbkpaaGreatDoorIExLawU22
import Derived.Test.YtkomhemjodbkpaaGreatDoorIExLawU13
import Derived.Test.YtkomhemjodbkpaaGreatDoorIExLawU19
import Derived.Deep.CutBlock
import Derived.Test.YtkomhemjodbkpaaGreatDoorIExLawU18
import Derived.Test.YtkomhemjodbkpaaGreatDoorIExLawU7
import Derived.Test.YtkomhemjodbkpaaGreatDoorIExLawU12
import Derived.Test.YtkomhemjodbkpaaGreatDoorIExLawU3
namespace Go.Proofs.YtkomhemjodbkpaaGreatDoor
open Go Go.RowKit
def sqrNLo (a b:Nat):Int × Dy:=if sgN (numI a) (numD a)≤0∧0≤sgN (numI b) (numD b) then (0,some (0,0)) else spanLo (prodN a a) (prodN b b) (prodN a a) (prodN b b)
def sqrNHi (a b:Nat):Int × Dy:=spanHi (prodN a a) (prodN b b) (prodN a a) (prodN b b)
theorem zero_num (w:World):NumV w (.agg #[.int .i64 0,.bool false,.bool false,.slice none 0 0,.int .i64 0]) 0 (some (0,0)):=⟨_,_,_,_,_,_,rfl,dn_zero w⟩
set_option maxRecDepth 100000 in
set_option maxHeartbeats 16000000 in
theorem refSqr_raw (a b:Nat) (g:Good a b) (w:World) (hT:Table w) :
    Calls Tryz.prog 20 #[.agg #[.int .u64 (a:Int),.int .u64 (b:Int)]] w fun e w'=>e=.returned (.agg #[.int .u64 ((rnN (sqrNLo a b).1 (sqrNLo a b).2 1:Nat):Int),.int .u64 ((rnN (sqrNHi a b).1 (sqrNHi a b).2 2:Nat):Int)])∧Ext w w':=by
  have C1:=Lib.hid (fun w=>refValid_any a b g.l1 g.l2 true g.valid w)
  have NA:=Lib.hid (fun w hT=>refNumOf_any a g.l1 _ _ rfl rfl w hT)
  have NB:=Lib.hid (fun w hT=>refNumOf_any b g.l2 _ _ rfl rfl w hT)
  have PR0:=Lib.hid (fun u v w hu hv hT=>refProduct_any u v (numI a) (numI a) (numD a) (numD a) (numI_range a) (numI_range a) w hu hv hT)
  have PR1:=Lib.hid (fun u v w hu hv hT=>refProduct_any u v (numI b) (numI b) (numD b) (numD b) (numI_range b) (numI_range b) w hu hv hT)
  have SP:=Lib.hid (fun u v x y w hu hv hx hy hT=>refSpan_any u v x y (prodN a a) (prodN b b) (prodN a a) (prodN b b) w hu hv hx hy hT)
  obtain ⟨sa,hsa⟩:∃ s,sgN (numI a) (numD a)=s:=⟨_,rfl⟩
  obtain ⟨sb,hsb⟩:∃ s,sgN (numI b) (numD b)=s:=⟨_,rfl⟩
  have SA:=Lib.hid (fun v w hv hT=>refSgN_any v (numI a) (numD a) sa hsa w hv hT)
  have SB:=Lib.hid (fun v w hv hT=>refSgN_any v (numI b) (numD b) sb hsb w hv hT)
  have HSA:=Lib.hid hsa
  have HSB:=Lib.hid hsb
  clear hsa hsb
  obtain ⟨LJ,LE,hlo⟩:∃ i d,sqrNLo a b=(i,d):=⟨_,_,rfl⟩
  obtain ⟨HI,HD,hhi⟩:∃ i d,sqrNHi a b=(i,d):=⟨_,_,rfl⟩
  obtain ⟨LI,LD,hsp⟩:∃ i d,spanLo (prodN a a) (prodN b b) (prodN a a) (prodN b b)=(i,d):=⟨_,_,rfl⟩
  have OW:=Lib.hid (fun u v w hu hv hT=>refOutward_any u v LJ HI LE HD w hu hv hT)
  rw [show spanHi (prodN a a) (prodN b b) (prodN a a) (prodN b b)=(HI,HD) from hhi,hsp] at SP
  unfold prodN at SP
  rw [hlo,hhi]
  have HLO:=Lib.hid hlo
  have HSPL:=Lib.hid hsp
  clear hlo hhi hsp
  show Calls _ _ _ w fun e w'=>e=.returned (.agg #[.int .u64 ((rnN LJ LE 1:Nat):Int),.int .u64 ((rnN HI HD 2:Nat):Int)])∧Ext w w'
  obtain ⟨x,hx⟩:∃ x:Int,((rnN LJ LE 1:Nat):Int)=x:=⟨_,rfl⟩
  obtain ⟨y,hy⟩:∃ y:Int,((rnN HI HD 2:Nat):Int)=y:=⟨_,rfl⟩
  rw [hx,hy] at OW
  rw [hx,hy]
  have HT:=Lib.hid hT
  clear hx hy g hT
  go_enter Tryz.func20,Tryz.ntmps20
  go_wp2_with fail
  obtain ⟨W,hW,hB,hx,hbx,hsz⟩:=ibox_two w a b 0 0
  rw [←hW]
  clear hW
  generalize hBe:w.heap.size=B at *
  have HBe:=Lib.hid hBe
  have HB:Hid (Below B w W):=Lib.hid (by rw [←hBe];exact hB)
  clear hBe hB hsz
  have c0:=hx.c0
  have c1:=hx.c1
  go_wp2_with fail
  refine (C1.out _).mono ?_
  rintro r V ⟨rfl,hE⟩
  have HB:=Lib.hid (HB.out.trans (Below.mono hE (Nat.le_of_lt hx.lt)))
  have hx:=hx.below hE
  have hbx:=hbx.below hE
  have hBs:=hbx.lt
  clear c0 c1 hE
  have HC:=Lib.hid (show ∀ wx,Ext V wx→(wx.cell? ⟨B,0,none⟩=some (.int .u64 (a:Int))∧wx.cell? ⟨B,1,none⟩=some (.int .u64 (b:Int)))∧IBox wx (B+1) 0 0 from fun wx h=>⟨⟨(hx.below h).c0,(hx.below h).c1⟩,hbx.below h⟩)
  have HTV:=Lib.hid (show ∀ wx,Ext V wx→Table wx from fun wx h=>(HT.out.below (Below.mono HB.out (Nat.le_of_eq HBe.out))).below h)
  clear hx hbx
  go_upto_region 3 with fail
  have HC0:=Lib.hid (fun wx (h:Ext V wx)=>(HC.out wx h).1.1)
  have HC1:=Lib.hid (fun wx (h:Ext V wx)=>(HC.out wx h).1.2)
  rename_i K HK
  refine refSqr_r3 (fun _ _ h=>h) (fun a' wc hM=>HK _ _ ?_) NA NB HTV HC0 HC1
  clear HK
  unfold Met at hM
  obtain ⟨u3,u4,u11,u12,u13,u14,u15,u16,u17,u18,u19,u20,u21,u22,u23,u24,u25,u26,u27,u28,u29,u30,u31,u32,u33,u34,u35,u36,u37,u38,u39,u40,u41,u42,u43,u44,⟨g0,g1,v0,v1,rfl,rfl,⟨b0,m0⟩,⟨b1,m1⟩,st⟩,rfl⟩:=hM
  obtain ⟨ai,ab,an,ao,ak,ac,af,rfl,b0⟩:=b0
  obtain ⟨bi,bb,bn,bo,bk,bc,bf,rfl,b1⟩:=b1
  obtain ⟨U,hU⟩:∃ U,U=wc:=⟨_,rfl⟩
  subst hU
  clear HC0 HC1
  have HC0:=Lib.hid (fun wx (h:Ext U wx)=>(⟨(b0.ext h).c0,(b0.ext h).c1,(b0.ext h).c2,(b0.ext h).c3,(b0.ext h).c4⟩:_∧_∧_∧_∧_))
  have NV0:=Lib.hid (fun wx (h:Ext U wx)=>m0.ext h)
  have HC1:=Lib.hid (fun wx (h:Ext U wx)=>(⟨(b1.ext h).c0,(b1.ext h).c1,(b1.ext h).c2,(b1.ext h).c3,(b1.ext h).c4⟩:_∧_∧_∧_∧_))
  have NV1:=Lib.hid (fun wx (h:Ext U wx)=>m1.ext h)
  have HTU:=Lib.hid (fun wx (h:Ext U wx)=>HTV.out wx (Ext.trans st h))
  have HST:=Lib.hid st
  clear b0 b1 m0 m1 st
  go_upto_region 4 with fail
  rename_i K HK
  refine refSqr_r4 (fun _ _ h=>h) (fun a' wc hM=>HK _ _ ?_) HC0 HC1 NV0 NV1 HTU PR0 PR1 SP
  clear HK
  unfold Met at hM
  obtain ⟨u5,u6,u17,u18,u19,u20,u21,u22,u23,u24,u25,u26,u27,u28,u29,u30,u31,u32,u33,u34,u35,u36,u37,u38,u39,u40,u41,u42,u43,u44,⟨h0,h1,v0,v1,rfl,rfl,⟨k0,n0,hU0⟩,⟨k1,n1⟩,hh,st⟩,rfl⟩:=hM
  obtain ⟨li,lb,ln,lo,lk,lc,lf,rfl,k0⟩:=k0
  obtain ⟨mi,mb,mn,mo,mk,mc,mf,rfl,k1⟩:=k1
  obtain ⟨a0,a1,a2,a3,a4⟩:=HC0.out _ st
  go_wp2_with fail
  refine (SA.out _ _ (NV0.out _ st) (HTU.out _ st)).mono ?_
  rintro r w1 ⟨rfl,hE⟩
  have st:Ext U w1:=Ext.trans st hE
  have k0:=k0.ext hE
  have k1:=k1.ext hE
  have n0:=n0.ext hE
  have n1:=n1.ext hE
  clear a0 a1 a2 a3 a4 hE
  by_cases hsa:sa≤0
  · obtain ⟨a0,a1,a2,a3,a4⟩:=HC1.out _ st
    go_wp2_with fail
    refine (SB.out _ _ (NV1.out _ st) (HTU.out _ st)).mono ?_
    rintro r w2 ⟨rfl,hE⟩
    have st:Ext U w2:=Ext.trans st hE
    have k0:=k0.ext hE
    have k1:=k1.ext hE
    have n0:=n0.ext hE
    have n1:=n1.ext hE
    clear a0 a1 a2 a3 a4 hE
    by_cases hsb:0≤sb
    · skip
      obtain ⟨rfl,rfl⟩:LJ=0∧LE=some (0,0):=by
        have h:=HLO.out
        unfold sqrNLo at h
        rw [HSA.out,HSB.out] at h
        rw [if_pos ⟨hsa,hsb⟩] at h
        
        exact ⟨(congrArg Prod.fst h).symm,(congrArg Prod.snd h).symm⟩
      have f0:=k0.f 0
      have f1:=k0.f 1
      have f2:=k0.f 2
      have f3:=k0.f 3
      have f4:=k0.f 4
      have x0:=k0.c0
      have x1:=k0.c1
      have x2:=k0.c2
      have x3:=k0.c3
      have x4:=k0.c4
      have ho:=only_set5 w2 h0 (.int .i64 0) (.bool false) (.bool false) (.slice none 0 0) (.int .i64 0)
      have q0:=k0.stored 0 false false none 0 0 0
      have q1:=k1.only ho hh
      have n1':=n1.only_nba ⟨_,_,_,_,_,_,_,k0⟩ ho
      have hU:Ext U _:=Below.trans st (ho.below hU0)
      have q00:=q0.c0
      have q01:=q0.c1
      have q02:=q0.c2
      have q03:=q0.c3
      have q04:=q0.c4
      have q10:=q1.c0
      have q11:=q1.c1
      have q12:=q1.c2
      have q13:=q1.c3
      have q14:=q1.c4
      have OW1:=Lib.hid (OW.out _ _ _ (zero_num _) n1' (HTU.out _ hU))
      have HUU:=Lib.hid hU
      clear q0 q1 k0 k1 n0 n1 n1' ho st hU hh hU0
      go_wp2_with fail
      refine OW1.out.mono ?_
      rintro r wd ⟨rfl,hE⟩
      have std:Ext V wd:=Ext.trans HST.out (Ext.trans HUU.out hE)
      clear q00 q01 q02 q03 q04 q10 q11 q12 q13 q14 f0 f1 f2 f3 f4 x0 x1 x2 x3 x4 hE
      obtain ⟨-,bz⟩:=HC.out wd std
      have z0:=bz.c0
      have z1:=bz.c1
      have z2:=bz.f 0
      have z3:=bz.f 1
      have hst:=bz.stored x y
      have y0:=hst.c0
      have y1:=hst.c1
      have HF:=Lib.hid ((HB.out.trans (Below.mono std (by omega))).trans ((only_iset2 wd (B+1) (.int .u64 x) (.int .u64 y)).below (by omega)))
      clear hst
      go_wp2
      refine bodyPost_ret (v:=.agg #[.int .u64 x,.int .u64 y]) (by simp [results,Tryz.results20,go_sem,y0,y1]) rfl ⟨rfl,?_⟩
      show Below _ _ _
      rw [HBe.out]
      exact HF.out
    · skip
      obtain ⟨rfl,rfl⟩:LJ=LI∧LE=LD:=by
        have h:=HLO.out
        unfold sqrNLo at h
        rw [HSA.out,HSB.out] at h
        rw [if_neg (by omega)] at h
        rw [HSPL.out] at h
        exact ⟨(congrArg Prod.fst h).symm,(congrArg Prod.snd h).symm⟩
      have x0:=k0.c0
      have x1:=k0.c1
      have x2:=k0.c2
      have x3:=k0.c3
      have x4:=k0.c4
      have y0:=k1.c0
      have y1:=k1.c1
      have y2:=k1.c2
      have y3:=k1.c3
      have y4:=k1.c4
      have OW1:=Lib.hid (OW.out _ _ _ n0 n1 (HTU.out _ st))
      have HUU:=Lib.hid st
      clear k0 k1 n0 n1 st hh hU0
      go_wp2_with fail
      refine OW1.out.mono ?_
      rintro r wd ⟨rfl,hE⟩
      have std:Ext V wd:=Ext.trans HST.out (Ext.trans HUU.out hE)
      clear x0 x1 x2 x3 x4
      clear y0 y1 y2 y3 y4
      clear hE
      obtain ⟨-,bz⟩:=HC.out wd std
      have z0:=bz.c0
      have z1:=bz.c1
      have z2:=bz.f 0
      have z3:=bz.f 1
      have hst:=bz.stored x y
      have y0:=hst.c0
      have y1:=hst.c1
      have HF:=Lib.hid ((HB.out.trans (Below.mono std (by omega))).trans ((only_iset2 wd (B+1) (.int .u64 x) (.int .u64 y)).below (by omega)))
      clear hst
      go_wp2
      refine bodyPost_ret (v:=.agg #[.int .u64 x,.int .u64 y]) (by simp [results,Tryz.results20,go_sem,y0,y1]) rfl ⟨rfl,?_⟩
      show Below _ _ _
      rw [HBe.out]
      exact HF.out
  · skip
    obtain ⟨rfl,rfl⟩:LJ=LI∧LE=LD:=by
      have h:=HLO.out
      unfold sqrNLo at h
      rw [HSA.out,HSB.out] at h
      rw [if_neg (by omega)] at h
      rw [HSPL.out] at h
      exact ⟨(congrArg Prod.fst h).symm,(congrArg Prod.snd h).symm⟩
    have x0:=k0.c0
    have x1:=k0.c1
    have x2:=k0.c2
    have x3:=k0.c3
    have x4:=k0.c4
    have y0:=k1.c0
    have y1:=k1.c1
    have y2:=k1.c2
    have y3:=k1.c3
    have y4:=k1.c4
    have OW1:=Lib.hid (OW.out _ _ _ n0 n1 (HTU.out _ st))
    have HUU:=Lib.hid st
    clear k0 k1 n0 n1 st hh hU0
    go_wp2_with fail
    refine OW1.out.mono ?_
    rintro r wd ⟨rfl,hE⟩
    have std:Ext V wd:=Ext.trans HST.out (Ext.trans HUU.out hE)
    clear x0 x1 x2 x3 x4
    clear y0 y1 y2 y3 y4
    clear hE
    obtain ⟨-,bz⟩:=HC.out wd std
    have z0:=bz.c0
    have z1:=bz.c1
    have z2:=bz.f 0
    have z3:=bz.f 1
    have hst:=bz.stored x y
    have y0:=hst.c0
    have y1:=hst.c1
    have HF:=Lib.hid ((HB.out.trans (Below.mono std (by omega))).trans ((only_iset2 wd (B+1) (.int .u64 x) (.int .u64 y)).below (by omega)))
    clear hst
    go_wp2
    refine bodyPost_ret (v:=.agg #[.int .u64 x,.int .u64 y]) (by simp [results,Tryz.results20,go_sem,y0,y1]) rfl ⟨rfl,?_⟩
    show Below _ _ _
    rw [HBe.out]
    exact HF.out
open Go Go.RowKit
def keptL (neg:Bool) (N:Nat) (e:Int) (t:Bool) (mode:Int):Nat:=cutV neg N (fplace N e - e).toNat t mode
theorem kept_cutL {neg:Bool} {N:Nat} {e:Int} {t:Bool} {mode:Int} (_:e≤fplace N e):cutV neg N (fplace N e - e).toNat t mode=keptL neg N e t mode:=rfl
theorem fla_keptL {neg:Bool} {N:Nat} {e:Int} {t:Bool} {mode:Int} (hlt:e<fplace N e) (h:¬ e+(Nat.log2 N:Int) > 1023):fla neg N e t mode=(fplace N e+1074).toNat*4503599627370496+keptL neg N e t mode:=by
  unfold fla keptL cutV
  rw [if_neg h,if_neg (by omega),Nat.add_assoc]
theorem kept_leL {neg:Bool} {N:Nat} {e:Int} {t:Bool} {mode:Int} (h0:N≠0) (hlt:e<fplace N e):keptL neg N e t mode≤9007199254740992∧(keptL neg N e t mode=9007199254740992→fover neg mode=true)∧(keptL neg N e t mode<4503599627370496→fplace N e = -1074):=by
  have l0:=Nat.log2_self_le h0
  have l1:=@Nat.lt_log2_self N
  generalize hl:Nat.log2 N=l at *
  have hp:fplace N e=max (e+(l:Int) - 52) (-1074):=by unfold fplace;rw [hl]
  unfold keptL
  generalize hk:(fplace N e - e).toNat=k
  have hlk:l≤52+k:=by omega
  have hp2:0<2^k:=Nat.pow_pos (by omega)
  have a1:N / 2^k<2^53:=by
    rw [Nat.div_lt_iff_lt_mul hp2,←Nat.pow_add]
    exact Nat.lt_of_lt_of_le l1 (Nat.pow_le_pow_right (by omega) (by omega))
  unfold cutV
  refine ⟨by split <;> omega,fun h=>?_,fun h=>?_⟩
  · cases hu:fup neg mode (N / 2^k) (N % 2^k) (2^k) t with
    | false=>rw [hu] at h;simp at h;omega
    | true =>
      unfold fup at hu
      unfold fover
      by_cases m1:mode=1
      · rw [if_pos m1] at hu ⊢;simp at hu;exact hu.1
      · rw [if_neg m1] at hu ⊢
        by_cases m2:mode=2
        · rw [if_pos m2] at hu ⊢;simp at hu;simp [hu.1]
        · rw [if_neg m2] at hu ⊢
          by_cases m3:mode=3
          · rw [if_pos m3] at hu;cases hu
          · rw [if_neg m3]
  · rcases Int.lt_or_le (-1074) (fplace N e) with h2 | h2
    · exfalso
      have hlk2:l=52+k:=by omega
      have a3:2^52≤N / 2^k:=by
        rw [Nat.le_div_iff_mul_le hp2,←Nat.pow_add,←hlk2];exact l0
      omega
    · omega
set_option maxRecDepth 100000 in
set_option maxHeartbeats 4000000 in
theorem refRoundedT_any (neg nb:Bool) (ao:Option Addr) (k ca:Nat) (N:Nat) (e:Int) (t:Bool) (mode:Int) (w:World) (h:Bg w nb ao k ca (N:Int)) (h0:N≠0) (hlt:e<fplace N e) (hbl:blen N≤900000) (he0 : -1000000≤e) (he1:e≤1000000) (hT:Table w) :
    Calls Tryz.prog 145 #[.bool neg,.agg #[.bool nb,.slice ao k ca],.int .i64 e,.bool t,.int .i64 mode] w fun r w'=>r=.returned (.int .u64 ((flr neg N e t mode:Nat):Int))∧Ext w w':=by
  obtain ⟨l,hl⟩:∃ l,Nat.log2 N=l:=⟨_,rfl⟩
  obtain ⟨bl,hbl2⟩:∃ bl,blen N=bl:=⟨_,rfl⟩
  have hbll:bl=l+1:=by rw [←hbl2,←hl];unfold blen;rw [if_neg h0]
  rw [hbl2] at hbl
  have HBL:=Lib.hid hbl2
  have HG:=Lib.hid (fun W (hE:Ext w W)=>h.below hE)
  have HTT:=Lib.hid (fun W (hE:Ext w W)=>hT.below hE)
  have hw1:IntKind.i64.wrap (e+(bl:Int))=e+(bl:Int):=IntWalk.i64_in _ ⟨by omega,by omega⟩
  have hw2:IntKind.i64.wrap (e+(bl:Int) - 1)=e+(bl:Int) - 1:=IntWalk.i64_in _ ⟨by omega,by omega⟩
  obtain ⟨R,hR⟩:∃ R,flr neg N e t mode=R:=⟨_,rfl⟩
  rw [hR]
  have HR:=Lib.hid hR
  clear h hT hbl2 hR
  go_enter Tryz.func145,Tryz.ntmps145
  go_upto_region 1 with fail
  obtain ⟨W,hW,hE,bx,hz⟩:=box_new w nb ao k ca
  rw [←hW]
  clear hW
  have HE0:=Lib.hid (show Ext w W from hE)
  have C:=Lib.hid (refBitLen_any nb ao k ca (N:Int) W (HG.out _ HE0.out))
  clear hE hz
  generalize w.heap.size=B at *
  have hE:=HE0.out
  have k0:=bx.c0
  have k1:=bx.c1
  go_wp2_with fail
  refine C.out.mono ?_
  rintro r w1 ⟨rfl,hw⟩
  rw [Int.natAbs_natCast,HBL.out]
  have hE:=Ext.trans hE hw
  have bx:=bx.below hw
  have hz:B<w1.heap.size:=bx.lt
  clear k0 k1 C hw
  by_cases htop:e+(bl:Int) - 1≥1024
  · have hV:sgz neg+(if fover neg mode then 9218868437227405312 else 9218868437227405311)=R:=by
      rw [←HR.out]
      unfold flr fla sgz
      rw [hl,if_pos (show e+(l:Int) > 1023 by omega)]
    have CO2:=Lib.hid (fun w=>by have:=refOver_any neg mode w;rw [hV] at this;exact this)
    have HFIN:=Lib.hid hE
    clear hl hE hbll hV
    go_wp2_with fail
    refine (CO2.out _).mono ?_
    rintro r w2 ⟨rfl,rfl⟩
    go_wp2
    go_ret
    exact ⟨rfl,HFIN.out⟩
  · obtain ⟨P,hP⟩:∃ P,fplace N e=P:=⟨_,rfl⟩
    have hPm:P=max (e+(bl:Int) - 1 - 52) (-1074):=by rw [←hP];unfold fplace;rw [hl];omega
    have hP0 : -1074≤P:=by omega
    have hP1:P≤971:=by omega
    have hP2:P - e≤1000000:=by omega
    have hP3:e - P≤52:=by omega
    obtain ⟨X,hX⟩:∃ X,keptL neg N e t mode=X:=⟨_,rfl⟩
    obtain ⟨q1,q2,q3⟩:=@kept_leL neg N e t mode h0 hlt
    rw [hX] at q1 q2 q3
    rw [hP] at q3
    have hfl:=@fla_keptL neg N e t mode hlt (by rw [hl];omega)
    rw [hP,hX] at hfl
    have HFL:=Lib.hid (show R=sgz neg+((P+1074).toNat*4503599627370496+X) by rw [←HR.out];unfold flr sgz;rw [hfl])
    have HK2:=Lib.hid q2
    have HK3:=Lib.hid q3
    have hw3:IntKind.i64.wrap (e+(bl:Int) - 1 - 52)=e+(bl:Int) - 1 - 52:=IntWalk.i64_in _ ⟨by omega,by omega⟩
    have hmx:(if e+(bl:Int) - 1 - 52≤-1074 then (-1074:Int) else e+(bl:Int) - 1 - 52)=P:=by split <;> omega
    have hKC:=@kept_cutL neg N e t mode
    rw [hP,hX] at hKC
    have HKC:=Lib.hid hKC
    have HLT:=Lib.hid (show e<P by rw [←hP];exact hlt)
    have hws1:IntKind.i64.wrap (P - e)=P - e:=IntWalk.i64_in _ ⟨by omega,by omega⟩
    have hws2:IntKind.i64.wrap (e - P)=e - P:=IntWalk.i64_in _ ⟨by omega,by omega⟩
    clear hfl q2 q3 hX hP hKC hl hbll hlt
    go_upto_region 5 with fail
    rw [←hPm]
    clear hPm hw1 hw2 hw3 hmx
    go_upto_region 6 with fail
    obtain ⟨V,hV,hVB,dn,hvz⟩:=box_new w1 false none 0 0
    rw [←hV]
    clear hV
    have hD0:w.heap.size≤w1.heap.size:=hE.size
    have hE:=Ext.trans hE hVB
    have bx:=bx.below hVB
    clear hVB hvz hz
    generalize w1.heap.size=D at *
    have HE1:=Lib.hid hE
    have k0:=bx.c0
    have k1:=bx.c1
    have q0:=dn.c0
    have q1:=dn.c1
    by_cases hge:e≤P
    · obtain ⟨kk,hkk⟩:∃ kk:Nat,P - e=(kk:Int):=⟨(P - e).toNat,by omega⟩
      have hkx:=HKC.out hge
      rw [show (P - e).toNat=kk by omega] at hkx
      have C:=refCut_any neg nb ao k ca N kk t mode V (HG.out _ hE) (by rw [HBL.out];exact hbl) (by omega) (HTT.out _ hE)
      rw [hkx,←hkk] at C
      have C:=Lib.hid C
      clear hkx hkk
      go_wp2_with fail
      refine C.out.mono ?_
      rintro r w3 ⟨nr,ro,j,cr,rfl,hx,hw⟩
      have hE:=Ext.trans hE hw
      have dn:=dn.below hw
      clear k0 k1 q0 q1 C
      have q0:=dn.c0
      have q1:=dn.c1
      have f0:=dn.f 0
      have f1:=dn.f 1
      have ho:=only_set2 w3 D (.bool nr) (.slice ro j cr)
      have hx:=Bn.only_bx' hx dn ho
      have dn:=dn.stored nr ro j cr
      have hE:Ext w ((w3.setCell ⟨D,0,none⟩ (.bool nr)).setCell ⟨D,1,none⟩ (.slice ro j cr)):=Below.trans hE (ho.below hD0)
      go_upto_region 9 with fail
      generalize (w3.setCell ⟨D,0,none⟩ (.bool nr)).setCell ⟨D,1,none⟩ (.slice ro j cr)=w4 at *
      clear q0 q1 f0 f1 ho hw bx
      have gx:=bn_bg_of hx (by rw [Int.natAbs_natCast];exact Nat.le_trans (blen_le_of_lt (show X<2^60 by omega)) (by omega))
      have j0:=dn.c0
      have j1:=dn.c1
      have C:=refInt_any _ _ _ _ _ w4 gx
      obtain ⟨xi,hxi⟩:∃ xi:Int,(X:Int)=xi:=⟨_,rfl⟩
      rw [(fits_yes (x:=(X:Int)) (by omega)).1,(fits_yes (x:=(X:Int)) (by omega)).2,hxi] at C
      have C:=Lib.hid C
      have HXI:=Lib.hid hxi
      clear gx hxi
      go_wp2_with fail
      refine C.out.mono ?_
      rintro r wr ⟨rfl,hwr⟩
      have HFIN:=Lib.hid (Ext.trans hE hwr)
      clear j0 j1 dn hx hE hwr C
      by_cases x53:X=9007199254740992
      · have hov:=HK2.out x53
        by_cases p9:P=971
        · have hV:sgz neg+9218868437227405312=R:=by rw [HFL.out,p9,x53];rfl
          have CO2:=Lib.hid (fun w=>by have:=refOver_any neg mode w;rw [hov,if_pos rfl,hV] at this;exact this)
          have hc1:xi=9007199254740992:=by rw [←HXI.out,x53];rfl
          clear hov hV x53
          subst p9
          go_wp2_with fail
          refine (CO2.out _).mono ?_
          rintro r wo ⟨rfl,rfl⟩
          go_wp2
          go_ret
          exact ⟨rfl,HFIN.out⟩
        · obtain ⟨Q,hQ⟩:∃ Q:Nat,P+1+1075=(Q:Int):=⟨(P+1+1075).toNat,by omega⟩
          have hV:sgz neg+Q*4503599627370496=R:=by rw [HFL.out,x53];omega
          have hor:=or_add (a:=Q) (b:=0) (k:=52) (by decide) (by omega)
          rw [Nat.add_zero,show ((Q*2^52:Nat):Int)=(Q:Int)*4503599627370496 by rw [Int.natCast_mul];rfl] at hor
          have CS2:=Lib.hid (fun w=>by have:=refSigned_any neg (Q*4503599627370496) (by omega) w;rw [hV,show ((Q*4503599627370496:Nat):Int)=(Q:Int)*4503599627370496 by rw [Int.natCast_mul];rfl,←hor] at this;exact this)
          clear hor
          have hc1:xi=9007199254740992:=by rw [←HXI.out,x53];rfl
          have hw5:IntKind.i64.wrap (P+1)=P+1:=IntWalk.i64_in _ ⟨by omega,by omega⟩
          have hw6:IntKind.i64.wrap (P+1+53)=P+1+53:=IntWalk.i64_in _ ⟨by omega,by omega⟩
          have hw7:IntKind.i64.wrap (P+1+1075)=P+1+1075:=IntWalk.i64_in _ ⟨by omega,by omega⟩
          have hng:¬ P+1+53 > 1024:=by omega
          clear hov hV x53 p9
          go_wp2_with fail
          refine (CS2.out _).mono ?_
          rintro r wo ⟨rfl,rfl⟩
          go_wp2
          go_ret
          exact ⟨rfl,HFIN.out⟩
      · by_cases x52:4503599627370496≤X
        · obtain ⟨Q,hQ⟩:∃ Q:Nat,P+1075=(Q:Int):=⟨(P+1075).toNat,by omega⟩
          obtain ⟨L,hL⟩:∃ L,X=L+4503599627370496:=⟨X - 4503599627370496,by omega⟩
          have hxi:=HXI.out
          have hxl:xi - 4503599627370496=(L:Int):=by omega
          have hL0:L<4503599627370496:=by omega
          have hV:sgz neg+(Q*4503599627370496+L)=R:=by rw [HFL.out];omega
          have hor:=or_add (a:=Q) (b:=L) (k:=52) hL0 (by omega)
          rw [show ((Q*2^52:Nat):Int)=(Q:Int)*4503599627370496 by rw [Int.natCast_mul];rfl] at hor
          have CS2:=Lib.hid (fun w=>by have:=refSigned_any neg (Q*4503599627370496+L) (by omega) w;rw [hV,show ((Q*4503599627370496+L:Nat):Int)=((Q*2^52+L:Nat):Int) from rfl,←hor] at this;exact this)
          have hc1:¬ (xi=9007199254740992):=by omega
          have hc2:xi≥4503599627370496:=by omega
          have hw5:IntKind.i64.wrap (P+53)=P+53:=IntWalk.i64_in _ ⟨by omega,by omega⟩
          have hw7:IntKind.i64.wrap (P+1075)=P+1075:=IntWalk.i64_in _ ⟨by omega,by omega⟩
          have hw8:IntKind.i64.wrap (xi - 4503599627370496)=xi - 4503599627370496:=IntWalk.i64_in _ ⟨by omega,by omega⟩
          have hng:¬ P+53 > 1024:=by omega
          clear hor hxi hL hV x53 x52
          go_wp2_with fail
          refine (CS2.out _).mono ?_
          rintro r wo ⟨rfl,rfl⟩
          go_wp2
          go_ret
          exact ⟨rfl,HFIN.out⟩
        · have hpl:=HK3.out (by omega)
          have hxi:=HXI.out
          have hc1:¬ (xi=9007199254740992):=by omega
          have hc2:¬ (xi≥4503599627370496):=by omega
          have hwx:IntKind.u64.wrap xi=xi:=by rw [IntKind.wrap_u64];omega
          have hV:sgz neg+X=R:=by rw [HFL.out,hpl];omega
          have CS2:=Lib.hid (fun w=>by have:=refSigned_any neg X (by omega) w;rw [hV,HXI.out] at this;exact this)
          clear hpl x53 x52 hV hxi
          go_wp2_with fail
          refine (CS2.out _).mono ?_
          rintro r wo ⟨rfl,rfl⟩
          go_wp2
          go_ret
          exact ⟨rfl,HFIN.out⟩
    · exact absurd (Int.le_of_lt HLT.out) hge
open Go Go.RowKit
theorem Bn.signed {w:World} {nb:Bool} {ao:Option Addr} {n ca:Nat} {c:Nat} (h:Bn w nb ao n ca (c:Int)) (neg:Bool) (hn:n≤1000000000):Bg w neg ao n ca (if neg then -(c:Int) else (c:Int)):=by
  obtain ⟨⟨zs,hs,hx⟩,hsm⟩:=h.bg hn
  have hnn:=num_nonneg hs.wf
  refine ⟨⟨zs,hs,?_⟩,hsm⟩
  have hz:num zs=(c:Int):=by
    have h2:=congrArg Int.natAbs hx
    rw [Int.natAbs_natCast] at h2
    unfold sgd at h2
    split at h2 <;> omega
  unfold sgd
  rw [hz]
open Go Go.RowKit
def UB (w:World) (g:Nat) (L:List Int) (T:List Value):Prop:=w.heap[g]?=some (.cells ((L.map (Value.int .u32))++T).toArray 72 (0,0))
theorem UB.lt {w:World} {g:Nat} {L:List Int} {T:List Value} (h:UB w g L T):g<w.heap.size:=(Array.getElem?_eq_some_iff.1 h).1
theorem UB.cell {w:World} {g:Nat} {L:List Int} {T:List Value} (h:UB w g L T) (j:Nat) (hj:j<L.length):w.cell? ⟨g,j,none⟩=some (.int .u32 (L.getD j 0)):=by
  rw [cell_of_row w g j _ _ _ h]
  simp [List.getElem?_append_left,hj,List.getD]
theorem UB.frozen {w:World} {g:Nat} {L:List Int} {T:List Value} (h:UB w g L T) (j:Nat):w.frozen? ⟨g,j,none⟩=false:=by
  unfold UB at h;simp [World.frozen?,h]
theorem UB.kept {w w':World} {g:Nat} {L:List Int} {T:List Value} (h:UB w g L T) {B:Nat} (hb:Below B w w') (hg:g<B):UB w' g L T:=by
  unfold UB;rw [hb.block g hg];exact h
theorem UB.below {w w':World} {g:Nat} {L:List Int} {T:List Value} (h:UB w g L T) (hb:Below w.heap.size w w'):UB w' g L T:=h.kept hb h.lt
theorem UB.only {w w':World} {g k:Nat} {L:List Int} {T:List Value} (h:UB w g L T) (hb:Only k w w') (hg:g≠k):UB w' g L T:=by
  unfold UB;rw [hb.block g hg];exact h
theorem UB.drewN {w:World} {g:Nat} {L:List Int} {T:List Value} (h:UB w g L T) (n:Nat):UB (w.drewN n) g L T:=h
theorem UB.set {w:World} {g:Nat} {L:List Int} {T:List Value} (h:UB w g L T) (i:Nat) (x:Int) (hi:i<L.length):UB (w.setCell ⟨g,i,none⟩ (.int .u32 x)) g (L.set i x) T:=by
  unfold UB at h ⊢
  have e:((L.map (Value.int .u32))++T).set i (.int .u32 x)=(L.set i x).map (Value.int .u32)++T:=by
    rw [List.set_append_left _ _ (by simpa using hi),List.map_set]
  rw [←e]
  simp [World.setCell,Array.getElem?_modify,h]
theorem UB.at {w:World} {g:Nat} {L:List Int} {T:List Value} (h:UB w g L T):At w (some ⟨g,0,none⟩) L:=fun _=>⟨g,0,rfl,fun j hj=>by rw [Nat.zero_add];exact h.cell j hj⟩
theorem UB.sl {w:World} {g n cap:Nat} {L:List Int} {T:List Value} (h:UB w g L T) (hw:Wf L) (hn:L.length=n) (hl:n≤1099511627776) (hc:n≤cap):Sl w (some ⟨g,0,none⟩) n cap L :=
  ⟨hn,hc,hl,hw,h.at⟩
theorem Own.ub {w:World} {B:Nat} {v:Value} {L:List Int} (h:Own w B v L) (h0:L≠[]):∃ g cap T,v=.slice (some ⟨g,0,none⟩) L.length cap∧B≤g∧UB w g L T∧L.length≤cap:=by
  obtain ⟨h1,h2⟩:=h
  rcases h2 with ⟨hv,h3⟩ | ⟨g,cap,cur,hv,hb,hg,hc,hm,hs,ht⟩
  · exact absurd (List.eq_nil_of_length_eq_zero h3) h0
  · refine ⟨g,cap,cur.toList.drop (L.length*1),hv,hb,?_,hc⟩
    unfold UB
    rw [←ht,List.take_append_drop,hg]
open Go Go.RowKit
theorem getD_window (U:List Int) (t m i:Nat) (h:i<m):((U.drop t).take m).getD i 0=U.getD (t+i) 0:=by
  rw [take_getD _ _ _ h]
  simp [List.getD,List.getElem?_drop]
def Minus (V ds:List Int) (q:Int) (k:Nat) (L:List Int) (c:Int):Prop:=L.length=k∧Wf L∧num L=num (V.take k) - q*num (ds.take k)+4294967296^k*c
theorem Minus.start (V ds:List Int) (q:Int):Minus V ds q 0 [] 0:=⟨rfl,Wf.nil,by simp [num]⟩
theorem Minus.step {V ds L:List Int} {q c c' z:Int} {k:Nat} (h:Minus V ds q k L c) (hz:0≤z∧z<4294967296) (ht:z=V.getD k 0 - q*ds.getD k 0 - c+4294967296*c'):Minus V ds q (k+1) (L++[z]) c':=by
  obtain ⟨h1,h2,h3⟩:=h
  refine ⟨by simp [h1],h2.append (Wf.cons hz Wf.nil),?_⟩
  rw [num_append,h1,num_take_next V k,num_take_next ds k,Int.pow_succ]
  simp only [num,Int.mul_zero,Int.add_zero]
  have e3:(4294967296:Int)^k*z=4294967296^k*V.getD k 0 - 4294967296^k*(q*ds.getD k 0) - 4294967296^k*c+4294967296^k*4294967296*c':=by
    rw [ht,Int.mul_add,Int.mul_sub,Int.mul_sub,Int.mul_assoc]
  have e4:q*(num (ds.take k)+4294967296^k*ds.getD k 0)=q*num (ds.take k)+4294967296^k*(q*ds.getD k 0):=by
    rw [Int.mul_add,Int.mul_left_comm]
  rw [e4]
  omega
theorem minus_word (x y q c b:Int) (x0:0≤x) (x1:x<4294967296) (p0:0≤q*y) (p1:q*y≤18446744065119617025) (c0:0≤c) (c1:c≤4294967295) (b0:0≤b) (b1:b≤1) :
    0≤(c+q*y) / 4294967296∧(c+q*y) / 4294967296≤4294967295 ∧
    0≤IntKind.u64.wrap (IntKind.u64.wrap (x - b) - (c+q*y) % 4294967296) / 9223372036854775808∧IntKind.u64.wrap (IntKind.u64.wrap (x - b) - (c+q*y) % 4294967296) / 9223372036854775808≤1 ∧
    IntKind.u64.wrap (IntKind.u64.wrap (x - b) - (c+q*y) % 4294967296) % 4294967296 =
      x - q*y - (c+b)+4294967296*((c+q*y) / 4294967296+IntKind.u64.wrap (IntKind.u64.wrap (x - b) - (c+q*y) % 4294967296) / 9223372036854775808):=by
  rw [IntKind.wrap_u64,IntKind.wrap_u64]
  generalize q*y=p at *
  omega
theorem minus_last (x c b:Int) (x0:0≤x) (x1:x<4294967296) (c0:0≤c) (c1:c≤4294967295) (b0:0≤b) (b1:b≤1) :
    0≤IntKind.u64.wrap (IntKind.u64.wrap (x - b) - c % 4294967296) / 9223372036854775808∧IntKind.u64.wrap (IntKind.u64.wrap (x - b) - c % 4294967296) / 9223372036854775808≤1 ∧
    IntKind.u64.wrap (IntKind.u64.wrap (x - b) - c % 4294967296) % 4294967296 =
      x - (c+b)+4294967296*(IntKind.u64.wrap (IntKind.u64.wrap (x - b) - c % 4294967296) / 9223372036854775808):=by
  rw [IntKind.wrap_u64,IntKind.wrap_u64]
  omega
theorem blk_grow {w:World} {g k m:Nat} {L:List Int} {z:Int} (h:Blk w g (L++List.replicate (m+1) 0)) (hk:L.length=k):Blk (w.setCell ⟨g,k,none⟩ (.int .u32 z)) g ((L++[z])++List.replicate m 0):=by
  have:=h.set k z
  subst hk
  rw [List.set_append_right _ _ (Nat.le_refl _),Nat.sub_self,List.replicate_succ,List.set_cons_zero] at this
  rw [List.append_assoc]
  exact this
open Go.RowKit
set_option maxRecDepth 100000 in
set_option maxHeartbeats 2000000 in
theorem refShl_own (zs:List Int) (s k:Nat) (ao:Option Addr) (n ca:Nat) (w:World) (ha:Sl w ao n ca zs) (hk:k<32) (hn:n≤1000000000) (hs:s≤1000000000) :
    Calls Tryz.prog 202 #[.slice ao n ca,.int .i64 ((s*32+k:Nat):Int)] w fun e w'=>∃ g cr L T,e=.returned (.slice (some ⟨g,0,none⟩) (s+n+1) cr)∧w.heap.size≤g∧UB w' g L T∧Wf L∧L.length=s+n+1∧num L=num zs*4294967296^s*2^k∧s+n+1≤cr∧Ext w w':=by
  have hd:((s*32+k:Nat):Int) / 32=(s:Int):=by omega
  have hr:((s*32+k:Nat):Int) % 32=(k:Int):=by omega
  obtain ⟨x,hx⟩:∃ x:Int,((s*32+k:Nat):Int)=x:=⟨_,rfl⟩
  rw [hx] at hd hr ⊢
  have hx0:0≤x:=by omega
  have hx1:x≤100000000000:=by omega
  have HX:=Lib.hid hx;clear hx
  have hal:=ha.len
  have HAL:=Lib.hid hal;clear hal
  have hwz:=ha.wf
  go_enter Tryz.func202,Tryz.ntmps202
  go_wp2_with (refine wpList_make_u32 _ rfl _ _ rfl _ s rfl rfl (by omega) (by omega) ?_)
  intro w1 hb1 hw1
  have hown0:=Own.of_blk hb1 (Nat.le_refl _) (by simp;omega)
  simp only [List.length_replicate] at hown0
  generalize hBe:w.heap.size=B at *
  have HBe:=Lib.hid hBe;clear hBe hb1
  go_wp2
  go_loopw [5,6,7] (fun v c i wr=>∃ (q:Nat) (L:List Int) (cc:Int),q≤n∧i=.int .i64 q∧c=.int .u64 cc∧ShlAt zs k q L cc∧Own wr B v (List.replicate s 0++L)∧Below B w wr) (fun _ _ i _=>n - (intOf i).toNat)
  case atStart=>exact ⟨0,[],0,Nat.zero_le _,rfl,rfl,⟨rfl,Wf.nil,Int.le_refl _,two_pos k,by simp [num]⟩,by simpa using hown0,hw1⟩
  case round =>
    obtain ⟨q,L,cc,hq,rfl,rfl,hsh,hown,hB⟩:=hrel
    have hlen:(List.replicate s (0:Int)++L).length=s+q:=by rw [List.length_append,List.length_replicate,hsh.1]
    have hc0:=hsh.2.2.1
    have hc1:=hsh.2.2.2.1
    have HSH:=Lib.hid hsh;clear hsh
    have hszq:B≤wr.heap.size:=by have:=hB.size;have:=HBe.out;omega
    have HSZ:=Lib.hid hszq;clear hszq
    have hlq:(List.replicate s (0:Int)++L).length≤1099511627776:=by omega
    have HLQ:=Lib.hid hlq;clear hlq
    have HLEN:=Lib.hid hlen;clear hlen
    by_cases hlt:q<n
    · obtain ⟨b,off,e0,hc⟩:=(ha.below (by rw [HBe.out];exact hB)).cells (by rw [HAL.out];omega)
      subst e0
      have c1:=hc q (by rw [HAL.out];omega)
      clear hc
      obtain ⟨y,hy⟩:∃ y,zs.getD q 0=y:=⟨_,rfl⟩
      have hyr:=hwz.getD q
      rw [hy] at c1 hyr
      obtain ⟨y0,y1⟩:=hyr
      have HY:=Lib.hid hy;clear hy
      have hor:=or_low64 hk hc0 hc1 y0 y1
      have HOR:=Lib.hid hor
      have HWR:=Lib.hid (wrap_shl64 hk y0 y1)
      clear hor
      go_wp2_with (at_builtin;refine wpList_append_u32 _ rfl (.tmp 27) (.tmp 30) rfl B _ (List.replicate s 0++L) _ rfl rfl hown HSZ.out HLQ.out ?_)
      intro v' w2 hown' hB1
      go_wp2
      go_roundw
      case rel =>
        rw [HWR.out,HOR.out.1] at hown' ⊢
        have h1:=HSH.out.step (by rw [HAL.out];exact hlt) (t:=cc+y*2^k) (by rw [HY.out]) HOR.out.2.1 HOR.out.2.2
        exact ⟨q+1,_,_,by omega,by go_num,rfl,h1,hown',hB.trans hB1⟩
      case measure=>simp [intOf] <;> omega
    · obtain rfl:q=n:=by omega
      go_wp2_with (at_builtin;refine wpList_append_u32 _ rfl (.tmp 34) (.tmp 37) rfl B _ (List.replicate s 0++L) _ rfl rfl hown HSZ.out HLQ.out ?_)
      intro v' w2 hown' hB1
      have hcc:cc % 4294967296=cc:=by
        have h3:=Int.pow_lt_pow_of_lt (show (1:Int)<2 by omega) hk
        have h4:(2:Int)^32=4294967296:=rfl
        exact Int.emod_eq_of_lt hc0 (by omega)
      rw [hcc] at hown'
      have hwf:Wf (List.replicate s 0++(L++[cc])):=(Wf.replicate s).append (HSH.out.2.1.append (Wf.cons ⟨hc0,by omega⟩ Wf.nil))
      have hll:(List.replicate s (0:Int)++(L++[cc])).length=s+q+1:=by
        rw [List.length_append,List.length_append,List.length_replicate,HSH.out.1];rfl
      have hnum:num (List.replicate s 0++(L++[cc]))=num zs*4294967296^s*2^k:=by
        have h5:=HSH.out.2.2.2.2
        rw [List.take_of_length_le (by rw [HAL.out];exact Nat.le_refl _)] at h5
        rw [num_append,num_append,num_replicate,List.length_replicate,HSH.out.1]
        simp only [num]
        rw [Int.mul_zero,Int.add_zero,h5,Int.zero_add,Int.mul_comm (num zs),←Int.mul_assoc,Int.mul_comm (num zs),Int.mul_right_comm,Int.mul_assoc]
      obtain ⟨g,rc,T,hv',hBg,hub,hcap⟩:=hown'.ub (by simp)
      rw [hll] at hcap hv'
      subst hv'
      have HUB:=Lib.hid hub
      have HNUM:=Lib.hid hnum
      have HLL:=Lib.hid hll
      have HWF:=Lib.hid hwf
      clear hub hnum hown' hwf hll
      go_wp2
      go_ret
      exact ⟨g,rc,_,T,rfl,by rw [HBe.out];exact hBg,HUB.out,HWF.out,HLL.out,HNUM.out,hcap,by rw [Ext,HBe.out];exact hB.trans hB1⟩
open Go.RowKit
set_option maxRecDepth 100000 in
set_option maxHeartbeats 8000000 in
theorem refTake_any (g j n nu cu cd:Nat) (U ds:List Int) (T:List Value) (bo:Option Addr) (q:Int) (w:World) (hU:U.length=nu) (hj:j+(n+1)≤nu) (hnu:nu≤1000000000) (hwU:Wf U) (hB:UB w g U T)
    (hd:Sl w bo n cd ds) (hst:Stay g w bo ds) (q0:0≤q) (q1:q≤4294967295) :
    Calls Tryz.prog 211 #[.slice (some ⟨g,0,none⟩) nu cu,.slice bo n cd,.int .i64 (j:Int),.int .u64 q] w fun e w' =>
      (e=.returned (.bool false)∧num ((U.drop j).take (n+1))<q*num ds∧Below w.heap.size w w') ∨
      (e=.returned (.bool true)∧∃ V',V'.length=n+1∧Wf V'∧num V'=num ((U.drop j).take (n+1)) - q*num ds∧UB w' g (U.take j++(V'++U.drop (j+(n+1)))) T∧∃ w1,Below w.heap.size w w1∧Only g w1 w'):=by
  obtain ⟨V,hV⟩:∃ V,(U.drop j).take (n+1)=V:=⟨_,rfl⟩
  have hVl:V.length=n+1:=by rw [←hV,List.length_take,List.length_drop];omega
  have hwV:Wf V:=by rw [←hV];exact (hwU.drop j).take _
  have hVg:∀ i,i<n+1→V.getD i 0=U.getD (j+i) 0:=fun i hi=>by rw [←hV];exact getD_window U j (n+1) i hi
  rw [hV]
  have hdl:=hd.len
  have hwd:=hd.wf
  have HU:=Lib.hid hU;clear hU
  have HV:=Lib.hid hVl;clear hVl
  have HVG:=Lib.hid hVg;clear hVg
  have HD:=Lib.hid hdl;clear hdl
  have HVU:=Lib.hid hV;clear hV
  have HST:=Lib.hid hst;clear hst
  go_enter Tryz.func211,Tryz.ntmps211
  go_wp2_with (refine wpList_make_u32 _ rfl _ _ rfl _ (n+1) rfl rfl (by omega) (by omega) ?_)
  intro w1 hb1 hw1
  have hB1:=hB.below hw1
  have hd1:=hd.cells.stay_below (g:=w.heap.size) hw1 (Nat.le_refl _)
  have hgl:=hB.lt
  generalize hGe:w.heap.size=G at *
  have HGe:=Lib.hid hGe;clear hGe
  have hgG:g≠G:=by omega
  have HW1:=Lib.hid hw1
  clear hB hw1
  go_wp2
  go_loopw [11,12,13,14] (fun b c i _ wr=>∃ (k:Nat) (bb cc:Int) (L:List Int),k≤n+1∧i=.int .i64 (k:Int)∧b=.int .u64 bb∧c=.int .u64 cc∧0≤bb∧bb≤1∧0≤cc∧cc≤4294967295∧(k=n+1→cc=0)∧Minus V ds q k L (cc+bb)∧Blk wr G (L++List.replicate (n+1 - k) 0)∧Only G w1 wr) (fun _ _ i _ _=>n+1 - (intOf i).toNat)
  case atStart=>exact ⟨0,0,0,[],Nat.zero_le _,rfl,rfl,rfl,by omega,by omega,by omega,by omega,by omega,Minus.start V ds q,hb1,Only.refl G w1⟩
  case round =>
    obtain ⟨k,bb,cc,L,hk,rfl,rfl,rfl,b0,b1,c0,c1,hcl,hM,hbk,ho⟩:=hrel
    have HM:=Lib.hid hM;clear hM
    have HCL:=Lib.hid hcl;clear hcl
    by_cases hlt:k<n+1
    · obtain ⟨x,hx⟩:∃ x,V.getD k 0=x:=⟨_,rfl⟩
      have hxr:=hwV.getD k
      rw [hx] at hxr
      obtain ⟨x0,x1⟩:=hxr
      have cu:=(hB1.only ho hgG).cell (j+k) (by rw [HU.out];omega)
      rw [←HVG.out k hlt,hx,Nat.add_comm j k] at cu
      have HX:=Lib.hid hx;clear hx
      have hfr:=hbk.frozen k
      obtain ⟨m,hm⟩:∃ m,n+1 - k=m+1:=⟨n - k,by omega⟩
      have hml:n+1 - (k+1)=m:=by omega
      have hL1:=HM.out.1
      have hcG:=hbk.cell k (by simp [hL1];omega)
      have hbk2:=fun z=>by have h:=hbk;rw [hm] at h;exact blk_grow (z:=z) h hL1
      have HBK:=Lib.hid hbk2
      have HO:=Lib.hid ho
      clear hbk2 hL1 hm
      by_cases h2:k<n
      · obtain ⟨bd,od,rfl,hc⟩:=hd1 _ ho (by rw [HD.out];omega)
        have cd:=hc k (by rw [HD.out];omega)
        obtain ⟨y,hy⟩:∃ y,ds.getD k 0=y:=⟨_,rfl⟩
        have hyr:=hwd.getD k
        rw [hy] at hyr cd
        have HY:=Lib.hid hy;clear hy hc
        obtain ⟨y0,y1⟩:=hyr
        obtain ⟨p0,p1⟩:=mul_bounds q0 (show q<4294967296 by omega) y0 y1
        have HWD:=Lib.hid (minus_word x y q cc bb x0 x1 p0 p1 c0 c1 b0 b1)
        have hwm:IntKind.u64.wrap (q*y)=q*y:=by rw [IntKind.wrap_u64];exact Int.emod_eq_of_lt p0 (by omega)
        have hwa:IntKind.u64.wrap (cc+q*y)=cc+q*y:=by rw [IntKind.wrap_u64];exact Int.emod_eq_of_lt (by omega) (by omega)
        have hand:=and_mask (a:=cc+q*y) (by omega) (by omega)
        clear ho hbk
        go_wp2
        go_roundw
        case rel =>
          refine ⟨k+1,_,_,_,by omega,by go_num,rfl,rfl,HWD.out.2.2.1,HWD.out.2.2.2.1,HWD.out.1,HWD.out.2.1,fun h=>by omega,HM.out.step ⟨Int.emod_nonneg _ (by omega),Int.emod_lt_of_pos _ (by omega)⟩ (HWD.out.2.2.2.2.trans (by rw [HX.out,HY.out])),?_,HO.out.setCell _ _⟩
          rw [hml];exact HBK.out _
        case measure=>simp [intOf] <;> omega
      · obtain rfl:k=n:=by omega
        have hy0:ds.getD k 0=0:=getD_past (by rw [HD.out];omega)
        have HY:=Lib.hid hy0;clear hy0
        have HWD:=Lib.hid (minus_last x cc bb x0 x1 c0 c1 b0 b1)
        have hand:=and_mask (a:=cc) (by omega) (by omega)
        have hdv:cc / 4294967296=0:=by omega
        clear ho hbk
        go_wp2
        go_roundw
        case rel =>
          refine ⟨k+1,_,_,_,by omega,by go_num,rfl,rfl,HWD.out.1,HWD.out.2.1,by omega,by omega,fun _=>by omega,HM.out.step ⟨Int.emod_nonneg _ (by omega),Int.emod_lt_of_pos _ (by omega)⟩ (HWD.out.2.2.trans (by rw [HX.out,HY.out,Int.mul_zero,Int.sub_zero,Int.zero_add])),?_,HO.out.setCell _ _⟩
          rw [hml];exact HBK.out _
        case measure=>simp [intOf] <;> omega
    · obtain rfl:k=n+1:=by omega
      obtain rfl:=HCL.out rfl
      obtain ⟨hL1,hL2,hL3⟩:=HM.out
      rw [List.take_of_length_le (by rw [HV.out];exact Nat.le_refl _),List.take_of_length_le (by rw [HD.out];omega),Int.zero_add] at hL3
      have hlt1:=num_lt hL2
      have hnn:=num_nonneg hL2
      have hvl:=num_lt hwV
      rw [hL1] at hlt1
      rw [HV.out] at hvl
      have hdn:=num_nonneg hwd
      have hpn:=pow_pos' (n+1)
      have hqd:=Int.mul_nonneg q0 hdn
      rw [Nat.sub_self,List.replicate_zero,List.append_nil] at hbk
      rcases (show bb=0∨bb=1 by omega) with rfl | rfl
      · rw [Int.mul_zero,Int.add_zero] at hL3
        have HL3:=Lib.hid hL3
        have HL2:=Lib.hid hL2
        have hUr:=hB1.only ho hgG
        have HOW:=Lib.hid ho
        have hszr:g<wr.heap.size:=hUr.lt
        clear hL3 hL2 hlt1 hnn hvl hdn hpn hqd ho
        go_wp2
        go_loopw [15] (fun i wx=>∃ (k:Nat),k≤n+1∧i=.int .i64 (k:Int)∧UB wx g (U.take j++(L.take k++U.drop (j+k))) T∧Only g wr wx) (fun i _=>n+1 - (intOf i).toNat)
        case atStart=>exact ⟨0,Nat.zero_le _,rfl,by simpa using hUr,Only.refl g wr⟩
        case round =>
          obtain ⟨k,hk,rfl,hu,ho⟩:=hrel
          have hkl:(U.take j++(L.take k++U.drop (j+k))).length=nu:=by
            simp only [List.length_append,List.length_take,List.length_drop,HU.out,hL1];omega
          by_cases hlt:k<n+1
          · have cg:=(hbk.only ho (Ne.symm hgG)).cell k (by rw [hL1];exact hlt)
            have cu:=hu.cell (j+k) (by rw [hkl];omega)
            have fu:=hu.frozen (j+k)
            rw [Nat.add_comm j k] at cu fu
            obtain ⟨z,hz⟩:∃ z,L.getD k 0=z:=⟨_,rfl⟩
            rw [hz] at cg
            have hset:(U.take j++(L.take k++U.drop (j+k))).set (k+j) z=U.take j++(L.take (k+1)++U.drop (j+(k+1))):=by
              have l1:(U.take j).length=j:=by rw [List.length_take,HU.out];omega
              have l2:(L.take k).length=k:=by rw [List.length_take,hL1];omega
              rw [List.set_append_right _ _ (by omega),l1,Nat.add_sub_cancel,List.set_append_right _ _ (by omega),l2,Nat.sub_self]
              rw [List.drop_eq_getElem_cons (show j+k<U.length by rw [HU.out];omega),List.set_cons_zero,List.take_succ_eq_append_getElem (show k<L.length by omega)]
              rw [←hz,List.getD,List.getElem?_eq_getElem (show k<L.length by omega),List.append_assoc]
              rfl
            have hu2:=hu.set (k+j) z (by rw [hkl];omega)
            rw [hset] at hu2
            have HU2:=Lib.hid hu2
            have HO2:=Lib.hid ho
            clear hu2 hset hu ho hz hkl
            go_wp2
            go_roundw
            case rel=>exact ⟨k+1,by omega,by go_num,HU2.out,HO2.out.setCell _ _⟩
            case measure=>simp [intOf] <;> omega
          · obtain rfl:k=n+1:=by omega
            rw [List.take_of_length_le (show L.length≤n+1 by omega)] at hu
            have HU2:=Lib.hid hu
            have HO2:=Lib.hid ho
            clear hu ho hkl
            go_wp2
            go_ret
            refine Or.inr ⟨rfl,L,hL1,HL2.out,HL3.out,HU2.out,_,?_,HO2.out⟩
            rw [HGe.out];exact HW1.out.trans (HOW.out.below (Nat.le_refl _))
      · have hneg:num V<q*num ds:=by omega
        have HN:=Lib.hid hneg
        have HOW:=Lib.hid ho
        clear hL3 hL2 hlt1 hnn hvl hdn hpn hqd hneg ho hbk
        go_wp2
        go_ret
        refine Or.inl ⟨rfl,HN.out,?_⟩
        rw [HGe.out];exact HW1.out.trans (HOW.out.below (Nat.le_refl _))
end Go.Proofs.YtkomhemjodbkpaaGreatDoor
