import Derived.Test.YtkomhemjodbkpaaGreatDoorIExLawU6
import Derived.Test.YtkomhemjodbkpaaGreatDoorIExLawU0
import Derived.Test.YtkomhemjodbkpaaGreatDoorRows
import Derived.WalkKit
import Derived.WalkSpells
import Derived.WalkLawsBesides
import Derived.Test.YtkomhemjodbkpaaGreatDoorIExLawU3
import Derived.Deep.QuietTactic
import Derived.BigQuiet
import Derived.Deep.RegionHeld3
import Derived.Laws.AppendOwn
import Derived.OwnWalk
namespace Go.Proofs.YtkomhemjodbkpaaGreatDoor
open Go.RowKit
def low74:Nat:=1074
def fmaF (a b c:Nat) (mode:Int):Nat :=
  if nanB a||nanB b||nanB c||(infB a||infB b)&&(zeroB a||zeroB b) then 9221120237041090560
  else if (infB a||infB b)&&infB c&&decide (c≠9218868437227405312+sgz (fneg a != fneg b)) then 9221120237041090560
  else if infB a||infB b then 9218868437227405312+sgz (fneg a != fneg b)
  else if (zeroB a||zeroB b)&&zeroB c&&decide (c≠sgz (fneg a != fneg b)) then cancel mode
  else if infB c||(zeroB a||zeroB b) then c
  else rsum (sgi (fneg a != fneg b) (fz a*fz b)+sgi (fneg c) (fz c*2^low74)) (-2148) mode
theorem fz_mul (a b:Nat):fz a*fz b=sig a*sig b*2^(fsh a+fsh b):=by
  unfold fz
  rw [Nat.pow_add,Nat.mul_mul_mul_comm]
theorem fz_up (c k:Nat):fz c*2^k=sig c*2^(fsh c+k):=by unfold fz;rw [Nat.pow_add,Nat.mul_assoc]
theorem sgi_zero (s:Bool):sgi s 0=0:=by unfold sgi;split <;> rfl
theorem fma_product {a b c H L:Nat} {mode:Int} (s:Bool) (hv:H*18446744073709551616+L=sig a*sig b) (h0:H*18446744073709551616+L≠0) (hc:fz c=0) :
    sgz s+fla s (H*18446744073709551616+L) (-1074+(fsh a:Int)+(-1074+(fsh b:Int))) false mode=rsum (sgi s (fz a*fz b)+sgi (fneg c) (fz c*2^low74)) (-2148) mode:=by
  have hn:=Num.unit (H*18446744073709551616+L) (fsh a+fsh b) (e:=-1074+(fsh a:Int)+(-1074+(fsh b:Int))) (m:=-2148) (by push_cast;omega)
  rw [hn.fla h0,hc,Nat.zero_mul,sgi_zero,Int.add_zero,fz_mul,←hv]
  unfold rsum
  have h1:(H*18446744073709551616+L)*2^(fsh a+fsh b)≠0:=Nat.mul_ne_zero h0 (Nat.pos_iff_ne_zero.1 (Nat.pow_pos (by omega)))
  generalize (H*18446744073709551616+L)*2^(fsh a+fsh b)=A at *
  rw [if_neg (by unfold sgi;split <;> omega),rnd_sgi s h1]
set_option maxRecDepth 100000 in
set_option maxHeartbeats 8000000 in
theorem ffma_any (a b c:Nat) (mode:Int) (ha:a<18446744073709551616) (hb:b<18446744073709551616) (hc:c<18446744073709551616) (w:World) :
    Calls Tryz.prog 88 #[.int .u64 (a:Int),.int .u64 (b:Int),.int .u64 (c:Int),.int .i64 mode] w fun r w'=>r=.returned (.int .u64 ((fmaF a b c mode:Nat):Int))∧Ext w w':=by
  have hx:a ^^^ b<18446744073709551616:=Nat.xor_lt_two_pow (n:=64) (by omega) (by omega)
  have h1:=bits_xor_u64_nat a b ha hb
  have CS:=signOf_any (a ^^^ b) hx
  have CC:=Lib.hid (signOf_any c hc)
  rw [fneg_xor ha hb] at CS
  generalize a ^^^ b=x at *
  obtain ⟨R,hR⟩:∃ R,fmaF a b c mode=R:=⟨_,rfl⟩
  rw [hR]
  unfold fmaF at hR
  obtain ⟨s,hs⟩:∃ s,(fneg a != fneg b)=s:=⟨_,rfl⟩
  rw [hs] at hR CS
  obtain ⟨z,hz⟩:∃ z,sgz s=z:=⟨_,rfl⟩
  have hz1:=sgz_le s
  rw [hz] at hR CS hz1
  have h2:bits BinOp.or IntKind.u64 9218868437227405312 (z:Int)=((9218868437227405312+z:Nat):Int):=by
    have:=or_sign' (s:=s) (a:=9218868437227405312) (by omega)
    rw [hz,Nat.add_comm] at this
    exact this
  obtain ⟨I,hI⟩:∃ I,9218868437227405312+z=I:=⟨_,rfl⟩
  rw [hI] at hR h2
  have CI:=Lib.hid (fun f h w=>isInf_any f h w)
  have NA:=isNaN_any a ha
  have NB:=isNaN_any b hb
  have NC:=isNaN_any c hc
  have IA:=isInf_any a ha
  have IB:=isInf_any b hb
  have IC:=isInf_any c hc
  have ZA:=isZero_any a ha
  have ZB:=isZero_any b hb
  have ZC:=isZero_any c hc
  have za0:zeroB a=false→sig a≠0:=fun h h3=>(of_decide_eq_false h) ((sig_zero a).1 h3)
  have zb0:zeroB b=false→sig b≠0:=fun h h3=>(of_decide_eq_false h) ((sig_zero b).1 h3)
  have zc0:zeroB c=false→sig c≠0:=fun h h3=>(of_decide_eq_false h) ((sig_zero c).1 h3)
  have zc1:zeroB c=true→fz c=0:=fun h=>(fz_zero c).2 (of_decide_eq_true h)
  obtain ⟨na,hna⟩:∃ q,nanB a=q:=⟨_,rfl⟩
  obtain ⟨nb,hnb⟩:∃ q,nanB b=q:=⟨_,rfl⟩
  obtain ⟨nc,hnc⟩:∃ q,nanB c=q:=⟨_,rfl⟩
  obtain ⟨ia,hia⟩:∃ q,infB a=q:=⟨_,rfl⟩
  obtain ⟨ib,hib⟩:∃ q,infB b=q:=⟨_,rfl⟩
  obtain ⟨ic,hic⟩:∃ q,infB c=q:=⟨_,rfl⟩
  obtain ⟨za,hza⟩:∃ q,zeroB a=q:=⟨_,rfl⟩
  obtain ⟨zb,hzb⟩:∃ q,zeroB b=q:=⟨_,rfl⟩
  obtain ⟨zc,hzc⟩:∃ q,zeroB c=q:=⟨_,rfl⟩
  rw [hna,hnb,hnc,hia,hib,hic,hza,hzb,hzc] at hR
  rw [hna] at NA
  rw [hnb] at NB
  rw [hnc] at NC
  rw [hia] at IA
  rw [hib] at IB
  rw [hic] at IC
  rw [hza] at ZA za0
  rw [hzb] at ZB zb0
  rw [hzc] at ZC zc0 zc1
  clear hna hnb hnc hia hib hic hza hzb hzc hs
  have NA:=Lib.hid NA;have NB:=Lib.hid NB;have NC:=Lib.hid NC
  have IA:=Lib.hid IA;have IB:=Lib.hid IB;have IC:=Lib.hid IC
  have ZA:=Lib.hid ZA;have ZB:=Lib.hid ZB;have ZC:=Lib.hid ZC
  have CS:=Lib.hid CS
  have ZS:=Lib.hid hz
  have HR:=Lib.hid hR
  have Z0:=Lib.hid (And.intro za0 (And.intro zb0 (And.intro zc0 zc1)))
  have HA:=Lib.hid ha;have HB:=Lib.hid hb;have HC:=Lib.hid hc
  have CM:=Lib.hid (fun w=>cancelled_any mode w)
  clear hz hR za0 zb0 zc0 zc1 ha hb hc hx hz1 hI CI
  go_enter Tryz.func88,Tryz.ntmps88
  go_wp2_with fail
  refine (CS.out _).mono ?_
  rintro r w1 ⟨rfl,rfl⟩
  go_upto_region 2 with fail
  go_cut [10,11] from 12 (fun p q wx=>p=.bool (ia||ib)∧q=.bool (za||zb)∧wx=w)
  case first =>
    cases ia <;> cases za
    all_goals
      go_wp2_with (first | ((with_reducible refine (IA.out _).mono ?_);rintro r w1 ⟨rfl,rfl⟩) | ((with_reducible refine (IB.out _).mono ?_);rintro r w1 ⟨rfl,rfl⟩) | ((with_reducible refine (ZA.out _).mono ?_);rintro r w1 ⟨rfl,rfl⟩) | ((with_reducible refine (ZB.out _).mono ?_);rintro r w1 ⟨rfl,rfl⟩))
      go_meet
      exact ⟨by first | rfl | simp,by first | rfl | simp,rfl⟩
  case rest =>
    obtain ⟨rfl,rfl,rfl⟩:=hcut
    obtain ⟨hi,hhi⟩:∃ q,(ia||ib)=q:=⟨_,rfl⟩
    obtain ⟨hz,hhz⟩:∃ q,(za||zb)=q:=⟨_,rfl⟩
    have HZ0:=Lib.hid (show hz=false→za=false∧zb=false by rw [←hhz];cases za <;> cases zb <;> simp)
    have hR:=HR.out
    rw [hhi,hhz] at hR
    rw [hhi,hhz]
    have HR:=Lib.hid hR
    clear hR hhi hhz
    cases na with
    | true =>
      go_wp2_with (first | ((with_reducible refine (NA.out _).mono ?_);rintro r w1 ⟨rfl,rfl⟩) | ((with_reducible refine (NB.out _).mono ?_);rintro r w1 ⟨rfl,rfl⟩) | ((with_reducible refine (NC.out _).mono ?_);rintro r w1 ⟨rfl,rfl⟩) | ((with_reducible refine (IC.out _).mono ?_);rintro r w1 ⟨rfl,rfl⟩) | ((with_reducible refine (ZC.out _).mono ?_);rintro r w1 ⟨rfl,rfl⟩) | ((with_reducible refine (CM.out _).mono ?_);rintro r w1 ⟨rfl,rfl⟩))
      go_ret
      refine ⟨ret_int ?_,Below.refl _ _⟩
      rw [←HR.out]
      simp
    | false =>
      cases nb with
      | true =>
        go_wp2_with (first | ((with_reducible refine (NA.out _).mono ?_);rintro r w1 ⟨rfl,rfl⟩) | ((with_reducible refine (NB.out _).mono ?_);rintro r w1 ⟨rfl,rfl⟩) | ((with_reducible refine (NC.out _).mono ?_);rintro r w1 ⟨rfl,rfl⟩) | ((with_reducible refine (IC.out _).mono ?_);rintro r w1 ⟨rfl,rfl⟩) | ((with_reducible refine (ZC.out _).mono ?_);rintro r w1 ⟨rfl,rfl⟩) | ((with_reducible refine (CM.out _).mono ?_);rintro r w1 ⟨rfl,rfl⟩))
        go_ret
        refine ⟨ret_int ?_,Below.refl _ _⟩
        rw [←HR.out]
        simp
      | false =>
        cases nc with
        | true =>
          go_wp2_with (first | ((with_reducible refine (NA.out _).mono ?_);rintro r w1 ⟨rfl,rfl⟩) | ((with_reducible refine (NB.out _).mono ?_);rintro r w1 ⟨rfl,rfl⟩) | ((with_reducible refine (NC.out _).mono ?_);rintro r w1 ⟨rfl,rfl⟩) | ((with_reducible refine (IC.out _).mono ?_);rintro r w1 ⟨rfl,rfl⟩) | ((with_reducible refine (ZC.out _).mono ?_);rintro r w1 ⟨rfl,rfl⟩) | ((with_reducible refine (CM.out _).mono ?_);rintro r w1 ⟨rfl,rfl⟩))
          go_ret
          refine ⟨ret_int ?_,Below.refl _ _⟩
          rw [←HR.out]
          simp
        | false =>
          cases hi with
          | true =>
            cases hz with
            | true =>
              go_wp2_with (first | ((with_reducible refine (NA.out _).mono ?_);rintro r w1 ⟨rfl,rfl⟩) | ((with_reducible refine (NB.out _).mono ?_);rintro r w1 ⟨rfl,rfl⟩) | ((with_reducible refine (NC.out _).mono ?_);rintro r w1 ⟨rfl,rfl⟩) | ((with_reducible refine (IC.out _).mono ?_);rintro r w1 ⟨rfl,rfl⟩) | ((with_reducible refine (ZC.out _).mono ?_);rintro r w1 ⟨rfl,rfl⟩) | ((with_reducible refine (CM.out _).mono ?_);rintro r w1 ⟨rfl,rfl⟩))
              go_ret
              refine ⟨ret_int ?_,Below.refl _ _⟩
              rw [←HR.out]
              simp
            | false =>
              cases ic with
              | true =>
                by_cases he:c=I
                · have h5:((c:Int) != (I:Int))=false:=by rw [bne_eq_false_iff_eq];omega
                  have HE:=Lib.hid he
                  clear he
                  go_wp2_with (first | ((with_reducible refine (NA.out _).mono ?_);rintro r w1 ⟨rfl,rfl⟩) | ((with_reducible refine (NB.out _).mono ?_);rintro r w1 ⟨rfl,rfl⟩) | ((with_reducible refine (NC.out _).mono ?_);rintro r w1 ⟨rfl,rfl⟩) | ((with_reducible refine (IC.out _).mono ?_);rintro r w1 ⟨rfl,rfl⟩) | ((with_reducible refine (ZC.out _).mono ?_);rintro r w1 ⟨rfl,rfl⟩) | ((with_reducible refine (CM.out _).mono ?_);rintro r w1 ⟨rfl,rfl⟩))
                  go_ret
                  refine ⟨ret_int ?_,Below.refl _ _⟩
                  rw [←HR.out]
                  simp [HE.out]
                · have h5:((c:Int) != (I:Int))=true:=by rw [bne_iff_ne];omega
                  have HE:=Lib.hid he
                  clear he
                  go_wp2_with (first | ((with_reducible refine (NA.out _).mono ?_);rintro r w1 ⟨rfl,rfl⟩) | ((with_reducible refine (NB.out _).mono ?_);rintro r w1 ⟨rfl,rfl⟩) | ((with_reducible refine (NC.out _).mono ?_);rintro r w1 ⟨rfl,rfl⟩) | ((with_reducible refine (IC.out _).mono ?_);rintro r w1 ⟨rfl,rfl⟩) | ((with_reducible refine (ZC.out _).mono ?_);rintro r w1 ⟨rfl,rfl⟩) | ((with_reducible refine (CM.out _).mono ?_);rintro r w1 ⟨rfl,rfl⟩))
                  go_ret
                  refine ⟨ret_int ?_,Below.refl _ _⟩
                  rw [←HR.out]
                  simp [HE.out]
              | false =>
                go_wp2_with (first | ((with_reducible refine (NA.out _).mono ?_);rintro r w1 ⟨rfl,rfl⟩) | ((with_reducible refine (NB.out _).mono ?_);rintro r w1 ⟨rfl,rfl⟩) | ((with_reducible refine (NC.out _).mono ?_);rintro r w1 ⟨rfl,rfl⟩) | ((with_reducible refine (IC.out _).mono ?_);rintro r w1 ⟨rfl,rfl⟩) | ((with_reducible refine (ZC.out _).mono ?_);rintro r w1 ⟨rfl,rfl⟩) | ((with_reducible refine (CM.out _).mono ?_);rintro r w1 ⟨rfl,rfl⟩))
                go_ret
                refine ⟨ret_int ?_,Below.refl _ _⟩
                rw [←HR.out]
                simp
          | false =>
            cases hz with
            | true =>
              cases zc with
              | true =>
                by_cases he:c=z
                · have h5:((c:Int) != (z:Int))=false:=by rw [bne_eq_false_iff_eq];omega
                  have HE:=Lib.hid he
                  clear he
                  cases ic
                  all_goals
                    go_wp2_with (first | ((with_reducible refine (NA.out _).mono ?_);rintro r w1 ⟨rfl,rfl⟩) | ((with_reducible refine (NB.out _).mono ?_);rintro r w1 ⟨rfl,rfl⟩) | ((with_reducible refine (NC.out _).mono ?_);rintro r w1 ⟨rfl,rfl⟩) | ((with_reducible refine (IC.out _).mono ?_);rintro r w1 ⟨rfl,rfl⟩) | ((with_reducible refine (ZC.out _).mono ?_);rintro r w1 ⟨rfl,rfl⟩) | ((with_reducible refine (CM.out _).mono ?_);rintro r w1 ⟨rfl,rfl⟩))
                    go_ret
                    refine ⟨ret_int ?_,Below.refl _ _⟩
                    rw [←HR.out]
                    simp [HE.out]
                · have h5:((c:Int) != (z:Int))=true:=by rw [bne_iff_ne];omega
                  have HE:=Lib.hid he
                  clear he
                  go_wp2_with (first | ((with_reducible refine (NA.out _).mono ?_);rintro r w1 ⟨rfl,rfl⟩) | ((with_reducible refine (NB.out _).mono ?_);rintro r w1 ⟨rfl,rfl⟩) | ((with_reducible refine (NC.out _).mono ?_);rintro r w1 ⟨rfl,rfl⟩) | ((with_reducible refine (IC.out _).mono ?_);rintro r w1 ⟨rfl,rfl⟩) | ((with_reducible refine (ZC.out _).mono ?_);rintro r w1 ⟨rfl,rfl⟩) | ((with_reducible refine (CM.out _).mono ?_);rintro r w1 ⟨rfl,rfl⟩))
                  go_ret
                  refine ⟨ret_int ?_,Below.refl _ _⟩
                  rw [←HR.out]
                  simp [HE.out]
              | false =>
                cases ic
                all_goals
                  go_wp2_with (first | ((with_reducible refine (NA.out _).mono ?_);rintro r w1 ⟨rfl,rfl⟩) | ((with_reducible refine (NB.out _).mono ?_);rintro r w1 ⟨rfl,rfl⟩) | ((with_reducible refine (NC.out _).mono ?_);rintro r w1 ⟨rfl,rfl⟩) | ((with_reducible refine (IC.out _).mono ?_);rintro r w1 ⟨rfl,rfl⟩) | ((with_reducible refine (ZC.out _).mono ?_);rintro r w1 ⟨rfl,rfl⟩) | ((with_reducible refine (CM.out _).mono ?_);rintro r w1 ⟨rfl,rfl⟩))
                  go_ret
                  refine ⟨ret_int ?_,Below.refl _ _⟩
                  rw [←HR.out]
                  simp
            | false =>
              cases ic with
              | true =>
                go_wp2_with (first | ((with_reducible refine (NA.out _).mono ?_);rintro r w1 ⟨rfl,rfl⟩) | ((with_reducible refine (NB.out _).mono ?_);rintro r w1 ⟨rfl,rfl⟩) | ((with_reducible refine (NC.out _).mono ?_);rintro r w1 ⟨rfl,rfl⟩) | ((with_reducible refine (IC.out _).mono ?_);rintro r w1 ⟨rfl,rfl⟩) | ((with_reducible refine (ZC.out _).mono ?_);rintro r w1 ⟨rfl,rfl⟩) | ((with_reducible refine (CM.out _).mono ?_);rintro r w1 ⟨rfl,rfl⟩))
                go_ret
                refine ⟨ret_int ?_,Below.refl _ _⟩
                rw [←HR.out]
                simp
              | false =>
                have hab:sig a*sig b≠0:=Nat.mul_ne_zero (Z0.out.1 (HZ0.out rfl).1) (Z0.out.2.1 (HZ0.out rfl).2)
                have CP:=Lib.hid (fproduct_any a b HA.out HB.out)
                have hsa:=sig_lt a
                have hsb:=sig_lt b
                have hp:sig a*sig b<2^106:=by
                  have:=Nat.mul_lt_mul'' hsa hsb
                  exact Nat.lt_of_lt_of_le this (by decide)
                have hfa:=fsh_lt a
                have hfb:=fsh_lt b
                have hfc:=fsh_lt c
                have hsc:=sig_lt c
                have HP:=Lib.hid (And.intro hab (And.intro hp (And.intro hfa (And.intro hfb (And.intro hfc hsc)))))
                clear hab hp hsa hsb hfa hfb hfc hsc
                cases zc with
                | true =>
                  go_wp2_with (first | ((with_reducible refine (NA.out _).mono ?_);rintro r w1 ⟨rfl,rfl⟩) | ((with_reducible refine (NB.out _).mono ?_);rintro r w1 ⟨rfl,rfl⟩) | ((with_reducible refine (NC.out _).mono ?_);rintro r w1 ⟨rfl,rfl⟩) | ((with_reducible refine (IC.out _).mono ?_);rintro r w1 ⟨rfl,rfl⟩) | ((with_reducible refine (ZC.out _).mono ?_);rintro r w1 ⟨rfl,rfl⟩))
                  refine (CP.out _).mono ?_
                  rintro r w2 ⟨H,L,rfl,hv,hH,hL,hE⟩
                  have hRR:z+fla s (H*18446744073709551616+L) (-1074+(fsh a:Int)+(-1074+(fsh b:Int))) false mode=R:=by
                    rw [←ZS.out,fma_product (c:=c) s hv (by rw [hv];exact HP.out.1) (Z0.out.2.2.2 (by first | rfl | trivial)),←HR.out]
                    simp
                  have CR:=Lib.hid (fround_at H L (-1074+(fsh a:Int)+(-1074+(fsh b:Int))) false s mode hH hL (by rw [hv];exact HP.out.1) (by simp) (by omega) (by have:=HP.out.2.2.1;have:=HP.out.2.2.2.1;omega) ZS.out R hRR)
                  clear hv hRR hH hL
                  have HE2:=Lib.hid hE
                  clear hE
                  go_wp2_with fail
                  refine (CR.out _).mono ?_
                  rintro r w3 ⟨rfl,hE⟩
                  go_wp2
                  go_ret
                  exact ⟨rfl,Ext.trans HE2.out hE⟩
                | false =>
                  have CSC:=Lib.hid (fsplit_any c HC.out)
                  go_wp2_with (first | ((with_reducible refine (NA.out _).mono ?_);rintro r w1 ⟨rfl,rfl⟩) | ((with_reducible refine (NB.out _).mono ?_);rintro r w1 ⟨rfl,rfl⟩) | ((with_reducible refine (NC.out _).mono ?_);rintro r w1 ⟨rfl,rfl⟩) | ((with_reducible refine (IC.out _).mono ?_);rintro r w1 ⟨rfl,rfl⟩) | ((with_reducible refine (ZC.out _).mono ?_);rintro r w1 ⟨rfl,rfl⟩))
                  refine (CP.out _).mono ?_
                  rintro r w2 ⟨H,L,rfl,hv,hH,hL,hE⟩
                  have HE2:=Lib.hid hE
                  have HV:=Lib.hid (And.intro hv (And.intro hH hL))
                  clear hE hv hH hL
                  go_wp2_with fail
                  refine (CSC.out _).mono ?_
                  rintro r w3 ⟨rfl,hE⟩
                  have HE3:=Lib.hid (Ext.trans HE2.out hE)
                  clear hE
                  go_wp2_with fail
                  refine (CC.out _).mono ?_
                  rintro r w4 ⟨rfl,rfl⟩
                  have CF:=frsum_any H L 0 (sig c) (-1074+(fsh a:Int)+(-1074+(fsh b:Int))) (-1074+(fsh c:Int)) s (fneg c) mode (fsh a+fsh b) (fsh c+low74) (-2148) HV.out.2.1 HV.out.2.2 (by omega) (by have:=HP.out.2.2.2.2.2;omega)
                    (by push_cast;omega) (by unfold low74;push_cast;omega) (by omega) (by have:=HP.out.2.2.1;have:=HP.out.2.2.2.1;omega) (by omega) (by have:=HP.out.2.2.2.2.1;omega) (by rw [HV.out.1];exact HP.out.1) (by rw [Nat.zero_mul,Nat.zero_add];exact Z0.out.2.2.1 (by first | rfl | trivial)) (by rw [HV.out.1];exact HP.out.2.1) (by have:=HP.out.2.2.2.2.2;omega)
                  rw [HV.out.1,←fz_mul,Nat.zero_mul,Nat.zero_add,←fz_up,ZS.out] at CF
                  have hRR:rsum (sgi s (fz a*fz b)+sgi (fneg c) (fz c*2^low74)) (-2148) mode=R:=by rw [←HR.out];simp
                  rw [hRR] at CF
                  have CF:=Lib.hid CF
                  clear hRR
                  go_wp2_with fail
                  refine (CF.out _).mono ?_
                  rintro r w5 ⟨rfl,hE⟩
                  go_wp2
                  go_ret
                  exact ⟨rfl,Ext.trans HE3.out hE⟩
open Go.RowKit
def faddF (a b:Nat) (mode:Int):Nat:=fmaF a 4607182418800017408 b mode
def fmulF (a b:Nat) (mode:Int):Nat:=fmaF a b (sgz (fneg a != fneg b)) mode
set_option maxRecDepth 100000 in
theorem fadd_any (a b:Nat) (mode:Int) (ha:a<18446744073709551616) (hb:b<18446744073709551616) (w:World) :
    Calls Tryz.prog 45 #[.int .u64 (a:Int),.int .u64 (b:Int),.int .i64 mode] w fun r w'=>r=.returned (.int .u64 ((faddF a b mode:Nat):Int))∧Ext w w':=by
  unfold faddF
  have C:=ffma_any a 4607182418800017408 b mode ha (by omega) hb
  generalize fmaF a 4607182418800017408 b mode=R at *
  rw [show ((4607182418800017408:Nat):Int)=4607182418800017408 from rfl] at C
  have C:=Lib.hid C
  go_enter Tryz.func45,Tryz.ntmps45
  go_wp2_with fail
  refine (C.out _).mono ?_
  rintro r w1 ⟨rfl,hE⟩
  go_wp2
  go_ret
  exact ⟨rfl,hE⟩
set_option maxRecDepth 100000 in
theorem fmul_any (a b:Nat) (mode:Int) (ha:a<18446744073709551616) (hb:b<18446744073709551616) (w:World) :
    Calls Tryz.prog 50 #[.int .u64 (a:Int),.int .u64 (b:Int),.int .i64 mode] w fun r w'=>r=.returned (.int .u64 ((fmulF a b mode:Nat):Int))∧Ext w w':=by
  unfold fmulF
  have hx:a ^^^ b<18446744073709551616:=Nat.xor_lt_two_pow (n:=64) (by omega) (by omega)
  have h1:=bits_xor_u64_nat a b ha hb
  have CS:=signOf_any (a ^^^ b) hx
  rw [fneg_xor ha hb] at CS
  have C:=ffma_any a b (sgz (fneg a != fneg b)) mode ha hb (by have:=sgz_le (fneg a != fneg b);omega)
  generalize a ^^^ b=x at *
  generalize fmaF a b (sgz (fneg a != fneg b)) mode=R at *
  generalize sgz (fneg a != fneg b)=z at *
  have C:=Lib.hid C
  have CS:=Lib.hid CS
  go_enter Tryz.func50,Tryz.ntmps50
  go_wp2_with fail
  refine (CS.out _).mono ?_
  rintro r w1 ⟨rfl,rfl⟩
  go_wp2_with fail
  refine (C.out _).mono ?_
  rintro r w1 ⟨rfl,hE⟩
  go_wp2
  go_ret
  exact ⟨rfl,hE⟩
set_option maxRecDepth 100000 in
set_option maxHeartbeats 1000000 in
theorem div64_zero (lo y:Nat) (hl:lo<18446744073709551616) (hy:y<18446744073709551616) (hy0:y≠0) (w:World) :
    Calls Tryz.prog 140 #[.int .u64 0,.int .u64 (lo:Int),.int .u64 (y:Int)] w fun r w'=>r=.returned (.tuple #[.int .u64 ((lo / y:Nat):Int),.int .u64 ((lo % y:Nat):Int)])∧Ext w w':=by
  have h0:((y:Int) == 0)=false:=by rw [beq_eq_false_iff_ne];omega
  have h1:¬ (y:Int)≤0:=by omega
  have h2:(0:Int)<(y:Int):=by omega
  have q1:(lo:Int) / (y:Int)=((lo / y:Nat):Int):=(Int.natCast_ediv lo y).symm
  have q2:(lo:Int) % (y:Int)=((lo % y:Nat):Int):=(Int.natCast_emod lo y).symm
  have q3:(lo:Int).tdiv (y:Int)=((lo / y:Nat):Int):=by rw [Int.tdiv_eq_ediv_of_nonneg (by omega),q1]
  have q4:(lo:Int).tmod (y:Int)=((lo % y:Nat):Int):=by rw [Int.tmod_eq_emod_of_nonneg (by omega),q2]
  have hb:lo / y<18446744073709551616:=Nat.lt_of_le_of_lt (Nat.div_le_self _ _) hl
  have q5:IntKind.u64.wrap ((lo / y:Nat):Int)=((lo / y:Nat):Int):=wrap_nat hb
  generalize lo / y=q at *
  generalize lo % y=r at *
  clear hl hy hy0
  go_enter Tryz.func140,Tryz.ntmps140
  go_upto_region 6 with fail
  go_quiet (fail)
  go_wp2
  go_ret2
  exact ⟨rfl,below_drewN (Below.refl _ _) _⟩
theorem sgn3_zero {x:Int} (h:sgn3 x 0=0):x=0:=by unfold sgn3 at h;split at h <;> (try split at h) <;> omega
open Go.RowKit
theorem len_zero_iff {a k:Nat} (h:(limbs a).length=k):k=0↔a=0:=by
  subst h
  constructor
  · intro h;exact limbs_inj (by rw [limbs_zero];exact List.eq_nil_of_length_eq_zero h)
  · rintro rfl;simp [limbs_zero]
open Go.RowKit
theorem Bg.drew {w:World} {nb:Bool} {ao:Option Addr} {n cap:Nat} {x:Int} (h:Bg w nb ao n cap x):Bg w.drew nb ao n cap x:=h.below (Below.refl _ _).drew
open Go Go.RowKit
def Own (w:World) (B:Nat) (v:Value) (L:List Int):Prop:=w.ownsRow B 72 1 v L.length (L.map (Value.int .u32))
theorem Own.nil (w:World) (B:Nat):Own w B (.slice none 0 0) []:=⟨rfl,Or.inl ⟨rfl,rfl⟩⟩
theorem Own.sl {w:World} {B:Nat} {v:Value} {L:List Int} (h:Own w B v L) (hw:Wf L) (hn:L.length≤1099511627776):∃ ao cap,v=.slice ao L.length cap∧Sl w ao L.length cap L:=by
  have h':=h
  obtain ⟨h1,h2⟩:=h
  rcases h2 with ⟨hv,h0⟩ | ⟨g,cap,cur,hv,hb,hg,hc,hm,hs,ht⟩
  · have hL:L = []:=List.eq_nil_of_length_eq_zero h0
    subst hL
    exact ⟨none,0,hv,Sl.nil w⟩
  · refine ⟨some ⟨g,0,none⟩,cap,hv,rfl,hc,hn,hw,fun h0=>⟨g,0,rfl,fun j hj=>?_⟩⟩
    subst hv
    have:=h'.cellAt j (by omega)
    rw [Nat.zero_add,this,List.getElem?_map,List.getElem?_eq_getElem hj,←getD_at hj]
    rfl
theorem Own.mono {w:World} {B C:Nat} {v:Value} {L:List Int} (h:Own w B v L) (hC:C≤B):Own w C v L :=
  ⟨h.1,h.2.imp id fun ⟨g,cap,cur,hv,hb,r⟩=>⟨g,cap,cur,hv,Nat.le_trans hC hb,r⟩⟩
theorem wpList_append_u32 (w0:World) {ops:Array Oper} {rest:List Oper} {o:Oper} {a:Act} {Q:Exit→Act→World→Prop} (hgd:o.guard=none) (s x:Operand)
    (ho:o.op=.call { callee:=.builtin .append,args:=#[s,x],argTypes:=#[34,34] })
    (B:Nat) (v:Value) (L:List Int) (y:Int) (hs:a.eval s=v) (hx:a.eval x=.slice (some ⟨w0.heap.size,0,none⟩) 1 1) (hown:Own w0 B v L) (hB:B≤w0.heap.size) (hL:L.length≤1099511627776)
    (h:∀ v' w',Own w' B v' (L++[y])→Below B w0 w'→wpList Tryz.prog ops Q rest (a.put o.dst v') w'):wpList Tryz.prog ops Q (o :: rest) a (w0.alloc (.cells #[.int .u32 y] 72)):=by
  obtain ⟨i0,hi,hz0,hz1,hz2⟩:=info_parts Tryz.infoU32
  refine wpList_append_own _ hgd s x 34 ho B 72 i0 (.int .u32 0) 1 4 Tryz.underlying34 hi hz0 hz1 hz2 rfl (by decide) v L.length (L.map (Value.int .u32)) hs (World.ownsRow.alloc hown _) ⟨w0.heap.size,0,none⟩ 1 1 [.int .u32 y] hx rfl ?_ ?_ ?_ ?_ ?_ ?_
  · intro j u hj
    have hn:(w0.alloc (.cells #[.int .u32 y] 72)).heap[w0.heap.size]?=some (.cells #[.int .u32 y] 72 (0,0)):=heap_alloc_new w0 _
    rcases j with _ | j
    · rw [Addr.add_lit,Nat.zero_add,cell_of_row _ w0.heap.size 0 _ _ _ hn];exact hj
    · simp at hj
  · intro u hu
    rw [List.mem_singleton] at hu
    subst hu
    rfl
  · unfold maxLen;omega
  · omega
  · simp;omega
  · intro v' w' hown' hg _
    refine h v' w' ?_ ?_
    · unfold Own
      rw [List.length_append,List.map_append]
      exact hown'
    · refine ((Below.refl B w0).alloc hB _).grown hg (by simp;omega) ?_
      intro k hk
      exact (hown.lt k hk).1
open Go.RowKit
set_option maxRecDepth 100000 in
set_option maxHeartbeats 2000000 in
theorem refTrim_any (ao:Option Addr) (n cap:Nat) (zs:List Int) (w:World) (h:Sl w ao n cap zs) :
    Calls Tryz.prog 176 #[.slice ao n cap] w fun e w'=>∃ ro k rc,e=.returned (.slice ro k rc)∧Sl w' ro k rc (limbs (num zs).toNat)∧k≤n∧Below w.heap.size w w':=by
  have hln:=h.len
  have HL:=Lib.hid hln;clear hln
  have hbig:=h.big
  have fin:∀ t,tlen zs n=t→t≤n∧zs.take t=limbs (num zs).toNat:=by
    rintro t rfl
    have e:=take_tlen h.wf n (by rw [HL.out];exact Nat.le_refl _)
    rw [List.take_of_length_le (i:=n) (by rw [HL.out];exact Nat.le_refl _)] at e
    exact ⟨tlen_le _ _,e⟩
  have FIN0:=Lib.hid fin;clear fin
  go_enter Tryz.func176,Tryz.ntmps176
  go_wp2
  go_loop [3] (fun i=>∃ k:Nat,k≤n∧i=.int .i64 k∧tlen zs n=tlen zs k) (fun i=>(intOf i).toNat)
  case atStart=>exact ⟨n,Nat.le_refl _,rfl,rfl⟩
  case round =>
    obtain ⟨k,hk,rfl,ht⟩:=hrel
    have HT:=Lib.hid ht;clear ht
    by_cases h0:0<k
    · obtain ⟨m,rfl⟩:∃ m,k=m+1:=⟨k - 1,by omega⟩
      obtain ⟨b,off,e0,hc⟩:=h.cells (by rw [HL.out];omega)
      have hcell:=hc m (by rw [HL.out];omega)
      clear hc
      subst e0
      go_wp2
      · have h1:(zs[m]?.getD 0 == 0)=true:=by assumption
        go_round
        case rel=>exact ⟨m,by omega,by go_num,by rw [HT.out,tlen,if_pos (by simpa [List.getD] using h1)]⟩
        case measure=>simp [intOf]
      · have h1:(zs[m]?.getD 0 == 0)=false:=by assumption
        have hfin:=FIN0.out (m+1) (by rw [HT.out,tlen,if_neg (by simpa [List.getD] using h1)])
        clear h1 hcell
        have FIN:=Lib.hid hfin
        have hj':=hfin.1
        clear hfin
        have hlen:=HL.out
        have hB0:=Below.refl w.heap.size w
        generalize hBe:w.heap.size=B at *
        have HB:=Lib.hid hBe;clear hBe
        go_wp2
        go_loopw [4,5] (fun v i wr=>∃ j:Nat,j≤(m+1)∧i=.int .i64 j∧Own wr B v (zs.take j)∧Below B w wr) (fun _ i _=>(m+1) - (intOf i).toNat)
        case atStart=>exact ⟨0,Nat.zero_le _,rfl,Own.nil _ _,hB0⟩
        case round =>
          obtain ⟨j,hj,rfl,hown,hB⟩:=hrel
          by_cases hlt:j<(m+1)
          · obtain ⟨b2,off2,e2,hc⟩:=(h.below (by rw [HB.out];exact hB)).cells (by omega)
            cases e2
            have hcell:=hc j (by omega)
            clear hc
            have hsz:B≤wr.heap.size:=by have:=hB.size;have:=HB.out;omega
            have htl:(zs.take j).length≤1099511627776:=by rw [List.length_take];omega
            have HSZ:=Lib.hid hsz;clear hsz
            have HTL:=Lib.hid htl;clear htl
            go_wp2_with (at_builtin;refine wpList_append_u32 _ rfl (.tmp 25) (.tmp 30) rfl B _ (zs.take j) _ rfl rfl hown HSZ.out HTL.out ?_)
            intro v' w1 hown' hB1
            go_wp2
            go_roundw
            case rel =>
              refine ⟨j+1,by omega,by go_num,?_,hB.trans hB1⟩
              rw [take_succ_getD _ _ (by omega)]
              exact hown'
            case measure=>simp [intOf] <;> omega
          · obtain rfl:j=(m+1):=by omega
            have e1:(zs.take (m+1)).length=m+1:=by rw [List.length_take];omega
            obtain ⟨ro,rc,rfl,hsl⟩:=hown.sl (h.wf.take _) (by omega)
            rw [e1] at hsl
            rw [FIN.out.2] at hsl
            go_wp2
            go_ret
            rw [e1]
            exact ⟨ro,m+1,rc,rfl,hsl,hj',by rw [HB.out];exact hB⟩
    · obtain rfl:k=0:=by omega
      have hfin:=FIN0.out 0 (by rw [HT.out];rfl)
      have FIN:=Lib.hid hfin
      have hj':=hfin.1
      clear hfin
      have hlen:=HL.out
      have hB0:=Below.refl w.heap.size w
      generalize hBe:w.heap.size=B at *
      have HB:=Lib.hid hBe;clear hBe
      go_wp2
      go_loopw [4,5] (fun v i wr=>∃ j:Nat,j≤0∧i=.int .i64 j∧Own wr B v (zs.take j)∧Below B w wr) (fun _ i _=>0 - (intOf i).toNat)
      case atStart=>exact ⟨0,Nat.zero_le _,rfl,Own.nil _ _,hB0⟩
      case round =>
        obtain ⟨j,hj,rfl,hown,hB⟩:=hrel
        by_cases hlt:j<0
        · omega
        · obtain rfl:j=0:=by omega
          have e1:(zs.take 0).length=0:=by rw [List.length_take];omega
          obtain ⟨ro,rc,rfl,hsl⟩:=hown.sl (h.wf.take _) (by omega)
          rw [e1] at hsl
          rw [FIN.out.2] at hsl
          go_wp2
          go_ret
          exact ⟨ro,0,rc,rfl,hsl,hj',by rw [HB.out];exact hB⟩
open Go.RowKit
theorem box_new (w:World) (nb:Bool) (ao:Option Addr) (n ca:Nat) :
    ∃ W,W=w.alloc (.cells #[.bool nb,.slice ao n ca] 36)∧Below w.heap.size w W∧Box W w.heap.size nb ao n ca∧w.heap.size+1≤W.heap.size :=
  ⟨_,rfl,(Below.refl _ w).alloc (Nat.le_refl _) _,Box.new w nb ao n ca,by simp⟩
theorem make1_val {nb nr:Bool} {zs:List Int} {w:World} {ro:Option Addr} {k rc:Nat} (hz:Wf zs) (hs:Sl w ro k rc (limbs (num zs).toNat)) (hr:nr=(nb&&decide (0<k))):Bn w nr ro k rc (sgd nb zs):=by
  refine bn_of hs hr ?_
  rw [Int.toNat_of_nonneg (num_nonneg hz)];rfl
set_option maxRecDepth 100000 in
set_option maxHeartbeats 1000000 in
theorem make1_any (nb:Bool) (ao:Option Addr) (n cap:Nat) (zs:List Int) (w:World) (h:Sl w ao n cap zs) :
    Calls Tryz.prog 177 #[.bool nb,.slice ao n cap] w fun e w'=>∃ nr ro k cr,e=.returned (.agg #[.bool nr,.slice ro k cr])∧Bn w' nr ro k cr (sgd nb zs)∧k≤n∧Below w.heap.size w w':=by
  go_enter Tryz.func177,Tryz.ntmps177
  go_wp2_with fail
  obtain ⟨W,hW,hB,hbx,hsz⟩:=box_new w false none 0 0
  rw [←hW]
  clear hW
  have hs0:=h.below hB
  generalize hBe:w.heap.size=B at *
  have HBe:=Lib.hid hBe;clear hBe
  refine (refTrim_any ao n cap zs W hs0).mono ?_
  rintro e w1 ⟨ro,k,rc,rfl,hs1,hk,hw1⟩
  have b1:=hbx.below hw1
  obtain ⟨h1,z1⟩:=bnext hB (by omega) hw1
  have q0:=b1.c0
  have q1:=b1.c1
  have q2:=b1.f 0
  have q3:=b1.f 1
  have hst:=b1.stored (nb&&decide (0<k)) ro k rc
  have u0:=hst.c0
  have u1:=hst.c1
  have hres:=make1_val (nb:=nb) h.wf (hs1.only_box b1 (only_set2 w1 B (.bool (nb&&decide (0<k))) (.slice ro k rc))) rfl
  have hbl:=h1.trans ((only_set2 w1 B (.bool (nb&&decide (0<k))) (.slice ro k rc)).below (Nat.le_refl _))
  have HRES:=Lib.hid hres;clear hres
  cases nb
  · simp only [Bool.false_and] at u0 u1 HRES hbl
    go_wp2
    refine bodyPost_ret (v:=.agg #[.bool false,.slice ro k rc]) (by simp [results,Tryz.results177,go_sem,u0,u1]) rfl ⟨_,ro,k,rc,rfl,HRES.out,hk,?_⟩
    rw [HBe.out];exact hbl
  · simp only [Bool.true_and] at u0 u1 HRES hbl
    go_wp2
    refine bodyPost_ret (v:=.agg #[.bool (decide (0<k)),.slice ro k rc]) (by simp [results,Tryz.results177,go_sem,u0,u1]) rfl ⟨_,ro,k,rc,rfl,HRES.out,hk,?_⟩
    rw [HBe.out];exact hbl
set_option maxRecDepth 100000 in
set_option maxHeartbeats 1000000 in
theorem refNorm_any (nb:Bool) (ao:Option Addr) (n cap:Nat) (x:Int) (w:World) (h:Bg w nb ao n cap x) :
    Calls Tryz.prog 172 #[.agg #[.bool nb,.slice ao n cap]] w fun e w'=>∃ nr ro k cr,e=.returned (.agg #[.bool nr,.slice ro k cr])∧Bn w' nr ro k cr x∧k≤n∧Below w.heap.size w w':=by
  obtain ⟨⟨zs,hs,hx⟩,hsm⟩:=h
  subst hx
  go_enter Tryz.func172,Tryz.ntmps172
  go_wp2_with fail
  obtain ⟨W,hW,hB,hbx,hrx,hz⟩:=boxes1 w nb ao n cap
  rw [←hW]
  clear hW
  have hs0:=hs.below hB
  generalize hBe:w.heap.size=B at *
  have HBe:=Lib.hid hBe;clear hBe
  have k0:=hbx.c0
  have k1:=hbx.c1
  go_wp2_with fail
  refine (make1_any nb ao n cap zs W hs0).mono ?_
  rintro e w1 ⟨nr,ro,k,rc,rfl,hs1,hk,hw1⟩
  have b1:=hrx.below hw1
  obtain ⟨h1,z1⟩:=bnext hB (by omega) hw1
  have q0:=b1.c0
  have q1:=b1.c1
  have q2:=b1.f 0
  have q3:=b1.f 1
  have hst:=b1.stored nr ro k rc
  have u0:=hst.c0
  have u1:=hst.c1
  have hres:Bn ((w1.setCell ⟨B+1,0,none⟩ (.bool nr)).setCell ⟨B+1,1,none⟩ (.slice ro k rc)) nr ro k rc (sgd nb zs):=⟨hs1.neg,hs1.sl.only_box b1 (only_set2 _ _ _ _)⟩
  have hbl:=h1.trans ((only_set2 w1 (B+1) (.bool nr) (.slice ro k rc)).below (Nat.le_succ B))
  have HRES:=Lib.hid hres;clear hres
  go_wp2
  refine bodyPost_ret (v:=.agg #[.bool nr,.slice ro k rc]) (by simp [results,Tryz.results172,go_sem,u0,u1]) rfl ⟨_,ro,k,rc,rfl,HRES.out,hk,?_⟩
  rw [HBe.out];exact hbl
set_option maxRecDepth 100000 in
set_option maxHeartbeats 1000000 in
theorem refSign_any (nb:Bool) (ao:Option Addr) (n cap:Nat) (x:Int) (w:World) (h:Bg w nb ao n cap x) :
    Calls Tryz.prog 142 #[.agg #[.bool nb,.slice ao n cap]] w fun e w'=>e=.returned (.int .i64 (sgn3 x 0))∧Below w.heap.size w w':=by
  go_enter Tryz.func142,Tryz.ntmps142
  go_wp2_with fail
  obtain ⟨W,hW,hB,hbx,hsz⟩:=box_new w nb ao n cap
  rw [←hW]
  clear hW
  have hs0:=h.below hB
  generalize hBe:w.heap.size=B at *
  have HBe:=Lib.hid hBe;clear hBe
  have k0:=hbx.c0
  have k1:=hbx.c1
  go_wp2_with fail
  refine (refNorm_any nb ao n cap x W hs0).mono ?_
  rintro e w1 ⟨nr,ro,k,rc,rfl,hs1,hk,hw1⟩
  have b1:=hbx.below hw1
  obtain ⟨h1,z1⟩:=bnext hB (by omega) hw1
  have q0:=b1.c0
  have q1:=b1.c1
  have q2:=b1.f 0
  have q3:=b1.f 1
  have hst:=b1.stored nr ro k rc
  have u0:=hst.c0
  have u1:=hst.c1
  have hbl:=h1.trans ((only_set2 w1 B (.bool nr) (.slice ro k rc)).below (Nat.le_refl B))
  have hz:=len_zero_iff hs1.sl.len
  have hneg:=hs1.neg
  clear h hs0 hB hbx k0 k1 b1 h1 hst hsz
  have HN:=Lib.hid hneg;clear hneg
  by_cases h0:k=0
  · have hx0:x=0:=by have:=hz.1 h0;omega
    have HX:=Lib.hid hx0
    subst h0
    clear hz hx0
    go_wp2
    go_ret
    exact ⟨by rw [HX.out];rfl,by rw [HBe.out];exact hbl⟩
  · have hk0:((k:Int) == 0)=false:=beq_eq_false_iff_ne.2 (by omega)
    have hx0:x≠0:=by intro e;exact h0 (hz.2 (by omega))
    have HX:=Lib.hid hx0
    clear hx0 h0 hz
    cases nr with
    | true =>
      have hlt:x<0:=by have:=HN.out;simpa using this.symm
      have e:sgn3 x 0 = -1:=by simp [sgn3];omega
      have HE:=Lib.hid e
      clear e hlt
      go_wp2
      go_ret
      exact ⟨by rw [HE.out];rfl,by rw [HBe.out];exact hbl⟩
    | false =>
      have hlt:¬ x<0:=by have:=HN.out;simpa using this.symm
      have e:sgn3 x 0=1:=by have:=HX.out;simp [sgn3];omega
      have HE:=Lib.hid e
      clear e hlt
      go_wp2
      go_ret
      exact ⟨by rw [HE.out];rfl,by rw [HBe.out];exact hbl⟩
end Go.Proofs.YtkomhemjodbkpaaGreatDoor
