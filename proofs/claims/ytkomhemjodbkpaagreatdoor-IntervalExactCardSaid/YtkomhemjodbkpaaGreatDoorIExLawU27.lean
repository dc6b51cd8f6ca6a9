import Derived.Test.YtkomhemjodbkpaaGreatDoorIExLawU26
import Derived.Test.YtkomhemjodbkpaaGreatDoorIExLawU17
import Derived.Test.YtkomhemjodbkpaaGreatDoorIExLawU1
import Derived.Test.YtkomhemjodbkpaaGreatDoorIExLawU19
import Derived.Test.YtkomhemjodbkpaaGreatDoorIExLawU13
import Derived.Test.YtkomhemjodbkpaaGreatDoorIExLawU22
namespace Go.Proofs.YtkomhemjodbkpaaGreatDoor
def keptV (neg:Bool) (N:Nat) (e:Int) (mode:Int):Nat:=if fplace N e≤e then N*2^(e - fplace N e).toNat else cutV neg N (fplace N e - e).toNat false mode
theorem fla_kept {neg:Bool} {N:Nat} {e:Int} {mode:Int} (h:¬ e+(Nat.log2 N:Int) > 1023):fla neg N e false mode=(fplace N e+1074).toNat*4503599627370496+keptV neg N e mode:=by
  unfold fla keptV cutV
  rw [if_neg h]
  split
  · rfl
  · rw [Nat.add_assoc]
theorem cut_zero (neg:Bool) (N:Nat) (mode:Int):cutV neg N 0 false mode=N:=by
  rw [cut_none neg mode (by rw [Nat.pow_zero,Nat.mod_one]),Nat.pow_zero,Nat.div_one]
theorem kept_cut {neg:Bool} {N:Nat} {e:Int} {mode:Int} (h:e≤fplace N e):cutV neg N (fplace N e - e).toNat false mode=keptV neg N e mode:=by
  unfold keptV
  by_cases h1:fplace N e≤e
  · have h2:fplace N e=e:=by omega
    rw [if_pos h1,h2,Int.sub_self]
    show cutV neg N 0 false mode=N*2^0
    rw [cut_zero,Nat.pow_zero,Nat.mul_one]
  · rw [if_neg h1]
theorem kept_shift {neg:Bool} {N:Nat} {e:Int} {mode:Int} (h:fplace N e<e):N*2^(e - fplace N e).toNat=keptV neg N e mode:=by
  unfold keptV;rw [if_pos (by omega)]
theorem kept_le {neg:Bool} {N:Nat} {e:Int} {mode:Int} (h0:N≠0):keptV neg N e mode≤9007199254740992∧(keptV neg N e mode=9007199254740992→fover neg mode=true)∧(keptV neg N e mode<4503599627370496→fplace N e = -1074):=by
  have l0:=Nat.log2_self_le h0
  have l1:=@Nat.lt_log2_self N
  generalize hl:Nat.log2 N=l at *
  have hp:fplace N e=max (e+(l:Int) - 52) (-1074):=by unfold fplace;rw [hl]
  unfold keptV
  by_cases h1:fplace N e≤e
  · rw [if_pos h1]
    generalize hk:(e - fplace N e).toNat=k
    have hlk:l+k≤52:=by omega
    have a1:N*2^k<2^(l+1)*2^k:=Nat.mul_lt_mul_of_pos_right l1 (Nat.pow_pos (by omega))
    rw [←Nat.pow_add] at a1
    have a2:(2:Nat)^(l+1+k)≤2^53:=Nat.pow_le_pow_right (by omega) (by omega)
    refine ⟨by omega,fun h=>by omega,fun h=>?_⟩
    rcases Int.lt_or_le (-1074) (fplace N e) with h2 | h2
    · exfalso
      have hlk2:l+k=52:=by omega
      have a3:2^l*2^k≤N*2^k:=Nat.mul_le_mul_right _ l0
      rw [←Nat.pow_add,hlk2] at a3
      omega
    · omega
  · rw [if_neg h1]
    generalize hk:(fplace N e - e).toNat=k
    have hlk:l≤52+k:=by omega
    have hp2:0<2^k:=Nat.pow_pos (by omega)
    have a1:N / 2^k<2^53:=by
      rw [Nat.div_lt_iff_lt_mul hp2,←Nat.pow_add]
      exact Nat.lt_of_lt_of_le l1 (Nat.pow_le_pow_right (by omega) (by omega))
    unfold cutV
    refine ⟨by split <;> omega,fun h=>?_,fun h=>?_⟩
    · cases hu:fup neg mode (N / 2^k) (N % 2^k) (2^k) false with
      | false=>rw [hu] at h;simp at h;omega
      | true =>
        unfold fup at hu
        unfold fover
        by_cases m1:mode=1
        · rw [if_pos m1] at hu ⊢;simp at hu;exact hu.1
        · rw [if_neg m1] at hu ⊢
          by_cases m2:mode=2
          · rw [if_pos m2] at hu ⊢;simp at hu;simp [hu.1]
          · rw [if_neg m2] at hu ⊢
            by_cases m3:mode=3
            · rw [if_pos m3] at hu;cases hu
            · rw [if_neg m3]
    · rcases Int.lt_or_le (-1074) (fplace N e) with h2 | h2
      · exfalso
        have hlk2:l=52+k:=by omega
        have a3:2^52≤N / 2^k:=by
          rw [Nat.le_div_iff_mul_le hp2,←Nat.pow_add,←hlk2];exact l0
        omega
      · omega
open Go Go.RowKit
set_option maxRecDepth 100000 in
set_option maxHeartbeats 1000000 in
theorem refSigned_any (neg:Bool) (f:Nat) (hf:f<9223372036854775808) (w:World) :
    Calls Tryz.prog 188 #[.bool neg,.int .u64 (f:Int)] w fun e w'=>e=.returned (.int .u64 ((sgz neg+f:Nat):Int))∧w=w':=by
  cases neg with
  | true =>
    have hor:=or_sign' (s:=true) hf
    rw [show ((sgz true:Nat):Int)=9223372036854775808 from rfl] at hor
    have HOR:=Lib.hid (show (9223372036854775808+(f:Int))=((sgz true+f:Nat):Int) by rw [show sgz true=9223372036854775808 from rfl];omega)
    go_enter Tryz.func188,Tryz.ntmps188
    go_wp2
    go_ret
    exact ⟨by first | rfl | (rw [←HOR.out];rfl),rfl⟩
  | false =>
    have HOR:=Lib.hid (show (f:Int)=((sgz false+f:Nat):Int) by rw [show sgz false=0 from rfl];omega)
    go_enter Tryz.func188,Tryz.ntmps188
    go_wp2
    go_ret
    exact ⟨by rw [←HOR.out];rfl,rfl⟩
set_option maxRecDepth 100000 in
set_option maxHeartbeats 2000000 in
theorem refOver_any (neg:Bool) (mode:Int) (w:World) :
    Calls Tryz.prog 185 #[.bool neg,.int .i64 mode] w fun e w'=>e=.returned (.int .u64 ((sgz neg+(if fover neg mode then 9218868437227405312 else 9218868437227405311):Nat):Int))∧w=w':=by
  have C:=Lib.hid (fun w=>refSigned_any neg 9218868437227405311 (by omega) w)
  have D:=Lib.hid (fun w=>refSigned_any neg 9218868437227405312 (by omega) w)
  have key:∀ b,fover neg mode=b→Calls Tryz.prog 185 #[.bool neg,.int .i64 mode] w fun e w'=>e=.returned (.int .u64 ((sgz neg+(if b then 9218868437227405312 else 9218868437227405311):Nat):Int))∧w=w':=by
    intro b hb
    unfold fover at hb
    by_cases m3:mode=3
    · have m1:¬ mode=1:=by omega
      have m2:¬ mode=2:=by omega
      rw [if_neg m1,if_neg m2,if_pos m3] at hb
      subst hb
      go_enter Tryz.func185,Tryz.ntmps185
      go_wp2_with fail
      refine (C.out _).mono ?_
      rintro e w1 ⟨rfl,rfl⟩
      go_wp2
      go_ret
      exact ⟨rfl,rfl⟩
    · by_cases m1:mode=1
      · rw [if_pos m1] at hb
        subst hb
        cases neg with
        | true =>
          go_enter Tryz.func185,Tryz.ntmps185
          go_wp2_with fail
          refine (D.out _).mono ?_
          rintro e w1 ⟨rfl,rfl⟩
          go_wp2
          go_ret
          exact ⟨rfl,rfl⟩
        | false =>
          go_enter Tryz.func185,Tryz.ntmps185
          go_wp2_with fail
          refine (C.out _).mono ?_
          rintro e w1 ⟨rfl,rfl⟩
          go_wp2
          go_ret
          exact ⟨rfl,rfl⟩
      · by_cases m2:mode=2
        · rw [if_neg m1,if_pos m2] at hb
          cases neg with
          | true =>
            obtain rfl:b=false:=hb.symm
            clear hb
            go_enter Tryz.func185,Tryz.ntmps185
            go_wp2_with fail
            refine (C.out _).mono ?_
            rintro e w1 ⟨rfl,rfl⟩
            go_wp2
            go_ret
            exact ⟨rfl,rfl⟩
          | false =>
            obtain rfl:b=true:=hb.symm
            clear hb
            go_enter Tryz.func185,Tryz.ntmps185
            go_wp2_with fail
            refine (D.out _).mono ?_
            rintro e w1 ⟨rfl,rfl⟩
            go_wp2
            go_ret
            exact ⟨rfl,rfl⟩
        · rw [if_neg m1,if_neg m2,if_neg m3] at hb
          subst hb
          go_enter Tryz.func185,Tryz.ntmps185
          go_wp2_with fail
          refine (D.out _).mono ?_
          rintro e w1 ⟨rfl,rfl⟩
          go_wp2
          go_ret
          exact ⟨rfl,rfl⟩
  exact key _ rfl
set_option maxRecDepth 100000 in
set_option maxHeartbeats 8000000 in
theorem refRounded_any (neg nb:Bool) (ao:Option Addr) (k ca:Nat) (N:Nat) (e:Int) (mode:Int) (w:World) (h:Bg w nb ao k ca (N:Int)) (h0:N≠0) (hbl:blen N≤900000) (he0 : -1000000≤e) (he1:e≤1000000) (hT:Table w) :
    Calls Tryz.prog 145 #[.bool neg,.agg #[.bool nb,.slice ao k ca],.int .i64 e,.bool false,.int .i64 mode] w fun r w'=>r=.returned (.int .u64 ((flr neg N e false mode:Nat):Int))∧Ext w w':=by
  obtain ⟨l,hl⟩:∃ l,Nat.log2 N=l:=⟨_,rfl⟩
  obtain ⟨bl,hbl2⟩:∃ bl,blen N=bl:=⟨_,rfl⟩
  have hbll:bl=l+1:=by rw [←hbl2,←hl];unfold blen;rw [if_neg h0]
  rw [hbl2] at hbl
  have HBL:=Lib.hid hbl2
  have HG:=Lib.hid (fun W (hE:Ext w W)=>h.below hE)
  have HTT:=Lib.hid (fun W (hE:Ext w W)=>hT.below hE)
  have hw1:IntKind.i64.wrap (e+(bl:Int))=e+(bl:Int):=IntWalk.i64_in _ ⟨by omega,by omega⟩
  have hw2:IntKind.i64.wrap (e+(bl:Int) - 1)=e+(bl:Int) - 1:=IntWalk.i64_in _ ⟨by omega,by omega⟩
  obtain ⟨R,hR⟩:∃ R,flr neg N e false mode=R:=⟨_,rfl⟩
  rw [hR]
  have HR:=Lib.hid hR
  clear h hT hbl2 hR
  go_enter Tryz.func145,Tryz.ntmps145
  go_upto_region 1 with fail
  obtain ⟨W,hW,hE,bx,hz⟩:=box_new w nb ao k ca
  rw [←hW]
  clear hW
  have HE0:=Lib.hid (show Ext w W from hE)
  have C:=Lib.hid (refBitLen_any nb ao k ca (N:Int) W (HG.out _ HE0.out))
  clear hE hz
  generalize w.heap.size=B at *
  have hE:=HE0.out
  have k0:=bx.c0
  have k1:=bx.c1
  go_wp2_with fail
  refine C.out.mono ?_
  rintro r w1 ⟨rfl,hw⟩
  rw [Int.natAbs_natCast,HBL.out]
  have hE:=Ext.trans hE hw
  have bx:=bx.below hw
  have hz:B<w1.heap.size:=bx.lt
  clear k0 k1 C hw
  by_cases htop:e+(bl:Int) - 1≥1024
  · have hV:sgz neg+(if fover neg mode then 9218868437227405312 else 9218868437227405311)=R:=by
      rw [←HR.out]
      unfold flr fla sgz
      rw [hl,if_pos (show e+(l:Int) > 1023 by omega)]
    have CO2:=Lib.hid (fun w=>by have:=refOver_any neg mode w;rw [hV] at this;exact this)
    have HFIN:=Lib.hid hE
    clear hl hE hbll hV
    go_wp2_with fail
    refine (CO2.out _).mono ?_
    rintro r w2 ⟨rfl,rfl⟩
    go_wp2
    go_ret
    exact ⟨rfl,HFIN.out⟩
  · obtain ⟨P,hP⟩:∃ P,fplace N e=P:=⟨_,rfl⟩
    have hPm:P=max (e+(bl:Int) - 1 - 52) (-1074):=by rw [←hP];unfold fplace;rw [hl];omega
    have hP0 : -1074≤P:=by omega
    have hP1:P≤971:=by omega
    have hP2:P - e≤1000000:=by omega
    have hP3:e - P≤52:=by omega
    obtain ⟨X,hX⟩:∃ X,keptV neg N e mode=X:=⟨_,rfl⟩
    obtain ⟨q1,q2,q3⟩:=@kept_le neg N e mode h0
    rw [hX] at q1 q2 q3
    rw [hP] at q3
    have hfl:=@fla_kept neg N e mode (by rw [hl];omega)
    rw [hP,hX] at hfl
    have HFL:=Lib.hid (show R=sgz neg+((P+1074).toNat*4503599627370496+X) by rw [←HR.out];unfold flr sgz;rw [hfl])
    have HK2:=Lib.hid q2
    have HK3:=Lib.hid q3
    have hw3:IntKind.i64.wrap (e+(bl:Int) - 1 - 52)=e+(bl:Int) - 1 - 52:=IntWalk.i64_in _ ⟨by omega,by omega⟩
    have hmx:(if e+(bl:Int) - 1 - 52≤-1074 then (-1074:Int) else e+(bl:Int) - 1 - 52)=P:=by split <;> omega
    have hKC:=@kept_cut neg N e mode
    have hKS:=@kept_shift neg N e mode
    rw [hP,hX] at hKC hKS
    have HKC:=Lib.hid hKC
    have HKS:=Lib.hid hKS
    have hws1:IntKind.i64.wrap (P - e)=P - e:=IntWalk.i64_in _ ⟨by omega,by omega⟩
    have hws2:IntKind.i64.wrap (e - P)=e - P:=IntWalk.i64_in _ ⟨by omega,by omega⟩
    clear hfl q2 q3 hX hP hKC hKS hl hbll
    go_upto_region 5 with fail
    rw [←hPm]
    clear hPm hw1 hw2 hw3 hmx
    go_upto_region 6 with fail
    obtain ⟨V,hV,hVB,dn,hvz⟩:=box_new w1 false none 0 0
    rw [←hV]
    clear hV
    have hD0:w.heap.size≤w1.heap.size:=hE.size
    have hE:=Ext.trans hE hVB
    have bx:=bx.below hVB
    clear hVB hvz hz
    generalize w1.heap.size=D at *
    have HE1:=Lib.hid hE
    have k0:=bx.c0
    have k1:=bx.c1
    have q0:=dn.c0
    have q1:=dn.c1
    by_cases hge:e≤P
    · obtain ⟨kk,hkk⟩:∃ kk:Nat,P - e=(kk:Int):=⟨(P - e).toNat,by omega⟩
      have hkx:=HKC.out hge
      rw [show (P - e).toNat=kk by omega] at hkx
      have C:=refCut_any neg nb ao k ca N kk false mode V (HG.out _ hE) (by rw [HBL.out];exact hbl) (by omega) (HTT.out _ hE)
      rw [hkx,←hkk] at C
      have C:=Lib.hid C
      clear hkx hkk
      go_wp2_with fail
      refine C.out.mono ?_
      rintro r w3 ⟨nr,ro,j,cr,rfl,hx,hw⟩
      have hE:=Ext.trans hE hw
      have dn:=dn.below hw
      clear k0 k1 q0 q1 C
      have q0:=dn.c0
      have q1:=dn.c1
      have f0:=dn.f 0
      have f1:=dn.f 1
      have ho:=only_set2 w3 D (.bool nr) (.slice ro j cr)
      have hx:=Bn.only_bx' hx dn ho
      have dn:=dn.stored nr ro j cr
      have hE:Ext w ((w3.setCell ⟨D,0,none⟩ (.bool nr)).setCell ⟨D,1,none⟩ (.slice ro j cr)):=Below.trans hE (ho.below hD0)
      go_upto_region 9 with fail
      generalize (w3.setCell ⟨D,0,none⟩ (.bool nr)).setCell ⟨D,1,none⟩ (.slice ro j cr)=w4 at *
      clear q0 q1 f0 f1 ho hw bx
      have gx:=bn_bg_of hx (by rw [Int.natAbs_natCast];exact Nat.le_trans (blen_le_of_lt (show X<2^60 by omega)) (by omega))
      have j0:=dn.c0
      have j1:=dn.c1
      have C:=refInt_any _ _ _ _ _ w4 gx
      obtain ⟨xi,hxi⟩:∃ xi:Int,(X:Int)=xi:=⟨_,rfl⟩
      rw [(fits_yes (x:=(X:Int)) (by omega)).1,(fits_yes (x:=(X:Int)) (by omega)).2,hxi] at C
      have C:=Lib.hid C
      have HXI:=Lib.hid hxi
      clear gx hxi
      go_wp2_with fail
      refine C.out.mono ?_
      rintro r wr ⟨rfl,hwr⟩
      have HFIN:=Lib.hid (Ext.trans hE hwr)
      clear j0 j1 dn hx hE hwr C
      by_cases x53:X=9007199254740992
      · have hov:=HK2.out x53
        by_cases p9:P=971
        · have hV:sgz neg+9218868437227405312=R:=by rw [HFL.out,p9,x53];rfl
          have CO2:=Lib.hid (fun w=>by have:=refOver_any neg mode w;rw [hov,if_pos rfl,hV] at this;exact this)
          have hc1:xi=9007199254740992:=by rw [←HXI.out,x53];rfl
          clear hov hV x53
          subst p9
          go_wp2_with fail
          refine (CO2.out _).mono ?_
          rintro r wo ⟨rfl,rfl⟩
          go_wp2
          go_ret
          exact ⟨rfl,HFIN.out⟩
        · obtain ⟨Q,hQ⟩:∃ Q:Nat,P+1+1075=(Q:Int):=⟨(P+1+1075).toNat,by omega⟩
          have hV:sgz neg+Q*4503599627370496=R:=by rw [HFL.out,x53];omega
          have hor:=or_add (a:=Q) (b:=0) (k:=52) (by decide) (by omega)
          rw [Nat.add_zero,show ((Q*2^52:Nat):Int)=(Q:Int)*4503599627370496 by rw [Int.natCast_mul];rfl] at hor
          have CS2:=Lib.hid (fun w=>by have:=refSigned_any neg (Q*4503599627370496) (by omega) w;rw [hV,show ((Q*4503599627370496:Nat):Int)=(Q:Int)*4503599627370496 by rw [Int.natCast_mul];rfl,←hor] at this;exact this)
          clear hor
          have hc1:xi=9007199254740992:=by rw [←HXI.out,x53];rfl
          have hw5:IntKind.i64.wrap (P+1)=P+1:=IntWalk.i64_in _ ⟨by omega,by omega⟩
          have hw6:IntKind.i64.wrap (P+1+53)=P+1+53:=IntWalk.i64_in _ ⟨by omega,by omega⟩
          have hw7:IntKind.i64.wrap (P+1+1075)=P+1+1075:=IntWalk.i64_in _ ⟨by omega,by omega⟩
          have hng:¬ P+1+53 > 1024:=by omega
          clear hov hV x53 p9
          go_wp2_with fail
          refine (CS2.out _).mono ?_
          rintro r wo ⟨rfl,rfl⟩
          go_wp2
          go_ret
          exact ⟨rfl,HFIN.out⟩
      · by_cases x52:4503599627370496≤X
        · obtain ⟨Q,hQ⟩:∃ Q:Nat,P+1075=(Q:Int):=⟨(P+1075).toNat,by omega⟩
          obtain ⟨L,hL⟩:∃ L,X=L+4503599627370496:=⟨X - 4503599627370496,by omega⟩
          have hxi:=HXI.out
          have hxl:xi - 4503599627370496=(L:Int):=by omega
          have hL0:L<4503599627370496:=by omega
          have hV:sgz neg+(Q*4503599627370496+L)=R:=by rw [HFL.out];omega
          have hor:=or_add (a:=Q) (b:=L) (k:=52) hL0 (by omega)
          rw [show ((Q*2^52:Nat):Int)=(Q:Int)*4503599627370496 by rw [Int.natCast_mul];rfl] at hor
          have CS2:=Lib.hid (fun w=>by have:=refSigned_any neg (Q*4503599627370496+L) (by omega) w;rw [hV,show ((Q*4503599627370496+L:Nat):Int)=((Q*2^52+L:Nat):Int) from rfl,←hor] at this;exact this)
          have hc1:¬ (xi=9007199254740992):=by omega
          have hc2:xi≥4503599627370496:=by omega
          have hw5:IntKind.i64.wrap (P+53)=P+53:=IntWalk.i64_in _ ⟨by omega,by omega⟩
          have hw7:IntKind.i64.wrap (P+1075)=P+1075:=IntWalk.i64_in _ ⟨by omega,by omega⟩
          have hw8:IntKind.i64.wrap (xi - 4503599627370496)=xi - 4503599627370496:=IntWalk.i64_in _ ⟨by omega,by omega⟩
          have hng:¬ P+53 > 1024:=by omega
          clear hor hxi hL hV x53 x52
          go_wp2_with fail
          refine (CS2.out _).mono ?_
          rintro r wo ⟨rfl,rfl⟩
          go_wp2
          go_ret
          exact ⟨rfl,HFIN.out⟩
        · have hpl:=HK3.out (by omega)
          have hxi:=HXI.out
          have hc1:¬ (xi=9007199254740992):=by omega
          have hc2:¬ (xi≥4503599627370496):=by omega
          have hwx:IntKind.u64.wrap xi=xi:=by rw [IntKind.wrap_u64];omega
          have hV:sgz neg+X=R:=by rw [HFL.out,hpl];omega
          have CS2:=Lib.hid (fun w=>by have:=refSigned_any neg X (by omega) w;rw [hV,HXI.out] at this;exact this)
          clear hpl x53 x52 hV hxi
          go_wp2_with fail
          refine (CS2.out _).mono ?_
          rintro r wo ⟨rfl,rfl⟩
          go_wp2
          go_ret
          exact ⟨rfl,HFIN.out⟩
    · obtain ⟨kk,hkk⟩:∃ kk:Nat,e - P=(kk:Int):=⟨(e - P).toNat,by omega⟩
      have hkx:=HKS.out (by omega)
      rw [show (e - P).toNat=kk by omega] at hkx
      have C:=(refShift_up nb ao k ca (N:Int) kk V (HG.out _ hE) (by omega)).mono (fun r w' hh=>by
        obtain ⟨nr,ro,j,cr,h1,h2,_,h4⟩:=hh
        exact (⟨nr,ro,j,cr,h1,h2,h4⟩:∃ nr ro j cr,r=.returned (.agg #[.bool nr,.slice ro j cr])∧Bn w' nr ro j cr ((N:Int)*2^kk)∧Ext V w'))
      rw [show (N:Int)*2^kk=((N*2^kk:Nat):Int) by rw [Int.natCast_mul,Int.natCast_pow];rfl,hkx,←hkk] at C
      have C:=Lib.hid C
      clear hkx hkk
      go_wp2_with fail
      refine C.out.mono ?_
      rintro r w3 ⟨nr,ro,j,cr,rfl,hx,hw⟩
      have hE:=Ext.trans hE hw
      have dn:=dn.below hw
      clear k0 k1 q0 q1 C
      have q0:=dn.c0
      have q1:=dn.c1
      have f0:=dn.f 0
      have f1:=dn.f 1
      have ho:=only_set2 w3 D (.bool nr) (.slice ro j cr)
      have hx:=Bn.only_bx' hx dn ho
      have dn:=dn.stored nr ro j cr
      have hE:Ext w ((w3.setCell ⟨D,0,none⟩ (.bool nr)).setCell ⟨D,1,none⟩ (.slice ro j cr)):=Below.trans hE (ho.below hD0)
      go_upto_region 9 with fail
      generalize (w3.setCell ⟨D,0,none⟩ (.bool nr)).setCell ⟨D,1,none⟩ (.slice ro j cr)=w4 at *
      clear q0 q1 f0 f1 ho hw bx
      have gx:=bn_bg_of hx (by rw [Int.natAbs_natCast];exact Nat.le_trans (blen_le_of_lt (show X<2^60 by omega)) (by omega))
      have j0:=dn.c0
      have j1:=dn.c1
      have C:=refInt_any _ _ _ _ _ w4 gx
      obtain ⟨xi,hxi⟩:∃ xi:Int,(X:Int)=xi:=⟨_,rfl⟩
      rw [(fits_yes (x:=(X:Int)) (by omega)).1,(fits_yes (x:=(X:Int)) (by omega)).2,hxi] at C
      have C:=Lib.hid C
      have HXI:=Lib.hid hxi
      clear gx hxi
      go_wp2_with fail
      refine C.out.mono ?_
      rintro r wr ⟨rfl,hwr⟩
      have HFIN:=Lib.hid (Ext.trans hE hwr)
      clear j0 j1 dn hx hE hwr C
      by_cases x53:X=9007199254740992
      · have hov:=HK2.out x53
        by_cases p9:P=971
        · have hV:sgz neg+9218868437227405312=R:=by rw [HFL.out,p9,x53];rfl
          have CO2:=Lib.hid (fun w=>by have:=refOver_any neg mode w;rw [hov,if_pos rfl,hV] at this;exact this)
          have hc1:xi=9007199254740992:=by rw [←HXI.out,x53];rfl
          clear hov hV x53
          subst p9
          go_wp2_with fail
          refine (CO2.out _).mono ?_
          rintro r wo ⟨rfl,rfl⟩
          go_wp2
          go_ret
          exact ⟨rfl,HFIN.out⟩
        · obtain ⟨Q,hQ⟩:∃ Q:Nat,P+1+1075=(Q:Int):=⟨(P+1+1075).toNat,by omega⟩
          have hV:sgz neg+Q*4503599627370496=R:=by rw [HFL.out,x53];omega
          have hor:=or_add (a:=Q) (b:=0) (k:=52) (by decide) (by omega)
          rw [Nat.add_zero,show ((Q*2^52:Nat):Int)=(Q:Int)*4503599627370496 by rw [Int.natCast_mul];rfl] at hor
          have CS2:=Lib.hid (fun w=>by have:=refSigned_any neg (Q*4503599627370496) (by omega) w;rw [hV,show ((Q*4503599627370496:Nat):Int)=(Q:Int)*4503599627370496 by rw [Int.natCast_mul];rfl,←hor] at this;exact this)
          clear hor
          have hc1:xi=9007199254740992:=by rw [←HXI.out,x53];rfl
          have hw5:IntKind.i64.wrap (P+1)=P+1:=IntWalk.i64_in _ ⟨by omega,by omega⟩
          have hw6:IntKind.i64.wrap (P+1+53)=P+1+53:=IntWalk.i64_in _ ⟨by omega,by omega⟩
          have hw7:IntKind.i64.wrap (P+1+1075)=P+1+1075:=IntWalk.i64_in _ ⟨by omega,by omega⟩
          have hng:¬ P+1+53 > 1024:=by omega
          clear hov hV x53 p9
          go_wp2_with fail
          refine (CS2.out _).mono ?_
          rintro r wo ⟨rfl,rfl⟩
          go_wp2
          go_ret
          exact ⟨rfl,HFIN.out⟩
      · by_cases x52:4503599627370496≤X
        · obtain ⟨Q,hQ⟩:∃ Q:Nat,P+1075=(Q:Int):=⟨(P+1075).toNat,by omega⟩
          obtain ⟨L,hL⟩:∃ L,X=L+4503599627370496:=⟨X - 4503599627370496,by omega⟩
          have hxi:=HXI.out
          have hxl:xi - 4503599627370496=(L:Int):=by omega
          have hL0:L<4503599627370496:=by omega
          have hV:sgz neg+(Q*4503599627370496+L)=R:=by rw [HFL.out];omega
          have hor:=or_add (a:=Q) (b:=L) (k:=52) hL0 (by omega)
          rw [show ((Q*2^52:Nat):Int)=(Q:Int)*4503599627370496 by rw [Int.natCast_mul];rfl] at hor
          have CS2:=Lib.hid (fun w=>by have:=refSigned_any neg (Q*4503599627370496+L) (by omega) w;rw [hV,show ((Q*4503599627370496+L:Nat):Int)=((Q*2^52+L:Nat):Int) from rfl,←hor] at this;exact this)
          have hc1:¬ (xi=9007199254740992):=by omega
          have hc2:xi≥4503599627370496:=by omega
          have hw5:IntKind.i64.wrap (P+53)=P+53:=IntWalk.i64_in _ ⟨by omega,by omega⟩
          have hw7:IntKind.i64.wrap (P+1075)=P+1075:=IntWalk.i64_in _ ⟨by omega,by omega⟩
          have hw8:IntKind.i64.wrap (xi - 4503599627370496)=xi - 4503599627370496:=IntWalk.i64_in _ ⟨by omega,by omega⟩
          have hng:¬ P+53 > 1024:=by omega
          clear hor hxi hL hV x53 x52
          go_wp2_with fail
          refine (CS2.out _).mono ?_
          rintro r wo ⟨rfl,rfl⟩
          go_wp2
          go_ret
          exact ⟨rfl,HFIN.out⟩
        · have hpl:=HK3.out (by omega)
          have hxi:=HXI.out
          have hc1:¬ (xi=9007199254740992):=by omega
          have hc2:¬ (xi≥4503599627370496):=by omega
          have hwx:IntKind.u64.wrap xi=xi:=by rw [IntKind.wrap_u64];omega
          have hV:sgz neg+X=R:=by rw [HFL.out,hpl];omega
          have CS2:=Lib.hid (fun w=>by have:=refSigned_any neg X (by omega) w;rw [hV,HXI.out] at this;exact this)
          clear hpl x53 x52 hV hxi
          go_wp2_with fail
          refine (CS2.out _).mono ?_
          rintro r wo ⟨rfl,rfl⟩
          go_wp2
          go_ret
          exact ⟨rfl,HFIN.out⟩
end Go.Proofs.YtkomhemjodbkpaaGreatDoor
