import Derived.Test.YtkomhemjodbkpaaGreatDoorIExLawU37
import Derived.Test.YtkomhemjodbkpaaGreatDoorIExLawU18
import Derived.Test.YtkomhemjodbkpaaGreatDoorIExLawU12
import Derived.Test.YtkomhemjodbkpaaGreatDoorIExLawU1
import Derived.Test.YtkomhemjodbkpaaGreatDoorIExLawU26
import Derived.RegionTactic
import Derived.ChangeAlike
namespace Go.Proofs.YtkomhemjodbkpaaGreatDoor
open Go.RowKit
theorem refShl_top (a k:Nat) (ao:Option Addr) (n ca:Nat) (w:World) (ha:Sl w ao n ca (limbs a)) (hk:k<32) (hn:n≤1000000000) :
    Calls Tryz.prog 202 #[.slice ao n ca,.int .i64 (k:Int)] w fun e w'=>∃ g cr L T,e=.returned (.slice (some ⟨g,0,none⟩) (n+1) cr)∧w.heap.size≤g∧UB w' g L T∧Wf L∧L.length=n+1∧num L=((a*2^k:Nat):Int)∧n+1≤cr∧Ext w w':=by
  have h:=refShl_own (limbs a) 0 k ao n ca w ha hk hn (by omega)
  rw [show 0*32+k=k by omega,show 0+n+1=n+1 by omega,num_limbs,Int.pow_zero,Int.mul_one] at h
  refine h.mono fun e w' ⟨g,cr,L,T,h1,h2,h3,h4,h5,h6,h7,h8⟩=>⟨g,cr,L,T,h1,h2,h3,h4,h5,?_,h7,h8⟩
  rw [h6,Int.natCast_mul,Int.natCast_pow];rfl
theorem guess_ge {W V top f R:Int} (hR:0<R) (hf:0<f) (hW:W<(top+1)*R) (hV:f*R≤V) (ht:0≤top):W / V≤top / f:=by
  have h1:=Int.mul_ediv_add_emod top f
  have h2:0≤top % f:=Int.emod_nonneg _ (by omega)
  have h3:top % f<f:=Int.emod_lt_of_pos _ hf
  have hg0:0≤top / f:=Int.ediv_nonneg ht (by omega)
  have hVp:0<V:=Int.lt_of_lt_of_le (Int.mul_pos hf hR) hV
  have h4:top+1≤f*(top / f+1):=by rw [Int.mul_add,Int.mul_one];omega
  have h5:(top+1)*R≤f*(top / f+1)*R:=Int.mul_le_mul_of_nonneg_right h4 (Int.le_of_lt hR)
  have h6:f*(top / f+1)*R=(top / f+1)*(f*R):=by rw [Int.mul_comm f,Int.mul_assoc]
  have h7:(top / f+1)*(f*R)≤(top / f+1)*V:=Int.mul_le_mul_of_nonneg_left hV (by omega)
  have h8:W<(top / f+1)*V:=by omega
  have h9:=Int.ediv_lt_of_lt_mul hVp h8
  omega
theorem digit_is {W V q:Int} (hV:0<V) (h1:W / V≤q) (h2:q*V≤W):q=W / V∧W - q*V=W % V:=by
  have h3:q≤W / V:=(Int.le_ediv_iff_mul_le hV).2 h2
  have h4:q=W / V:=by omega
  refine ⟨h4,?_⟩
  have:=Int.mul_ediv_add_emod W V
  rw [h4,Int.mul_comm]
  omega
theorem digit_less {W V q:Int} (hV:0<V) (h:W<q*V):W / V≤q - 1:=by
  have:=Int.ediv_lt_of_lt_mul hV h
  omega
set_option maxRecDepth 100000 in
set_option maxHeartbeats 8000000 in
theorem refDivMag_any (a b:Nat) (ao bo:Option Addr) (n mm ca cb:Nat) (w:World) (ha:Sl w ao n ca (limbs a)) (hb:Sl w bo mm cb (limbs b)) (h0:b≠0) (hn:n≤100000000) :
    Calls Tryz.prog 205 #[.slice ao n ca,.slice bo mm cb] w fun e w'=>∃ qo qk qc ro rk rc,e=.returned (.tuple #[.slice qo qk qc,.slice ro rk rc])∧Sl w' qo qk qc (limbs (a / b))∧Sl w' ro rk rc (limbs (a % b))∧Ext w w':=by
  by_cases hab:a<b
  · have hs:sgn3 (a:Int) b = -1:=by unfold sgn3;rw [if_pos (by omega)]
    have CM:=refCmpMag_any a b ao bo n mm ca cb w ha hb
    rw [hs] at CM
    have CM:=Lib.hid CM
    have hq0:a / b=0:=Nat.div_eq_of_lt hab
    have hr0:a % b=a:=Nat.mod_eq_of_lt hab
    rw [hq0,hr0]
    clear hs hq0 hr0 hab h0
    go_enter Tryz.func205,Tryz.ntmps205
    go_wp2_with fail
    refine CM.out.mono ?_
    rintro e w1 ⟨rfl,q,rfl⟩
    obtain ⟨W1,hW1,hq⟩:=drewN_world w q
    rw [hW1]
    clear hW1
    have ha1:=ha.below hq
    go_wp2
    go_ret2
    exact ⟨none,0,0,ao,n,ca,rfl,by rw [limbs_zero];exact Sl.nil _,ha1,hq⟩
  · have hab:b≤a:=by omega
    have hs:decide (sgn3 (a:Int) b<0)=false:=by simp [sgn3];omega
    have hmn:mm≤n:=by
      have:=limbs_mono hab
      rw [ha.len,hb.len] at this
      exact this
    obtain ⟨m,rfl⟩:∃ m,mm=m+1:=by
      refine ⟨mm - 1,?_⟩
      rcases Nat.eq_zero_or_pos mm with h | h
      · subst h
        have:=hb.len
        have:=(limbs_len_le b 0).1 (by omega)
        rw [Nat.pow_zero] at this
        omega
      · omega
    obtain ⟨k,hk,hlz,hvl,hvt⟩:=norm_shift (b:=b) (m:=m) hb.len
    obtain ⟨bd,od,rfl,hc⟩:=hb.cells (by rw [hb.len];omega)
    have c1:=hc m (by rw [hb.len];omega)
    clear hc
    have hxr:=(Wf.limbs b).getD m
    obtain ⟨x,hx⟩:∃ x,(limbs b).getD m 0=x:=⟨_,rfl⟩
    rw [hx] at c1 hxr hlz
    clear hx
    obtain ⟨x0,x1⟩:=hxr
    have HLZ:=Lib.hid hlz;clear hlz
    have H:=Lib.hid hab;clear hab
    have V0:(0:Int)<((b*2^k:Nat):Int):=by
      have:=Nat.mul_pos (Nat.pos_of_ne_zero h0) (show 0<2^k from Nat.pos_of_ne_zero (by simp))
      omega
    have V1:((b*2^k:Nat):Int)<4294967296^(m+1):=by
      have h1:=(limbs_len_le (b*2^k) (m+1)).1 (by rw [hvl];exact Nat.le_refl _)
      have h2:=Int.ofNat_lt.2 h1
      rw [Int.natCast_pow] at h2
      exact h2
    have V2:(4294967296:Int)^m≤((b*2^k:Nat):Int):=by
      have h1:4294967296^m≤b*2^k:=by
        rcases Nat.lt_or_ge (b*2^k) (4294967296^m) with h | h
        · have:=(limbs_len_le (b*2^k) m).2 h;omega
        · exact h
      have h2:=Int.ofNat_le.2 h1
      rw [Int.natCast_pow] at h2
      exact h2
    have AB:((a*2^k:Nat):Int)<((b*2^k:Nat):Int)*4294967296^(n - m):=by
      have h1:=(limbs_len_le a n).1 (by rw [ha.len];exact Nat.le_refl _)
      have h2:4294967296^m≤b:=by
        rcases Nat.lt_or_ge b (4294967296^m) with h | h
        · have:=(limbs_len_le b m).2 h;have:=hb.len;omega
        · exact h
      have h3:a*2^k<b*2^k*4294967296^(n - m):=by
        have e:n=m+(n - m):=by omega
        rw [e,Nat.pow_add] at h1
        have h4:=Nat.mul_le_mul_right (4294967296^(n - m)) h2
        have h5:=Nat.mul_lt_mul_of_pos_right (Nat.lt_of_lt_of_le h1 h4) (show 0<2^k from Nat.pos_of_ne_zero (by simp))
        rwa [Nat.mul_right_comm] at h5
      have h4:=Int.ofNat_lt.2 h3
      rw [Int.natCast_mul (b*2^k),Int.natCast_pow] at h4
      exact h4
    have hdm:∀ N R:Int,((a*2^k:Nat):Int)=R+((b*2^k:Nat):Int)*N→0≤R→R<((b*2^k:Nat):Int)→N=((a / b:Nat):Int)∧R=((a % b*2^k:Nat):Int):=by
      intro N R he hR0 hR1
      have hkk:0<2^k:=Nat.pos_of_ne_zero (by simp)
      have e1:((a*2^k:Nat):Int) / ((b*2^k:Nat):Int)=N:=by
        rw [he,Int.add_mul_ediv_left _ _ (by omega),Int.ediv_eq_zero_of_lt hR0 hR1];omega
      have e2:((a*2^k:Nat):Int) % ((b*2^k:Nat):Int)=R:=by
        rw [he,Int.add_mul_emod_self_left,Int.emod_eq_of_lt hR0 hR1]
      constructor
      · rw [←e1,←Int.natCast_ediv,Nat.mul_div_mul_right _ _ hkk]
      · rw [←e2,←Int.natCast_emod,Nat.mul_mod_mul_right]
    have HDM:=Lib.hid hdm
    have HV0:=Lib.hid V0
    have HV1:=Lib.hid V1
    have HV2:=Lib.hid V2
    have HAB:=Lib.hid AB
    clear hdm V0 V1 V2 AB hvt hvl h0 H
    have CM:=Lib.hid (refCmpMag_any a b ao (some ⟨bd,od,none⟩) n (m+1) ca cb w ha hb)
    go_enter Tryz.func205,Tryz.ntmps205
    go_wp2_with fail
    refine CM.out.mono ?_
    rintro e w1 ⟨rfl,q,rfl⟩
    obtain ⟨W1,hW1,hq⟩:=drewN_world w q
    rw [hW1]
    clear hW1 CM
    have ha1:=ha.below hq
    have hb1:=hb.below hq
    have c2:W1.cell? ⟨bd,od+m,none⟩=some (.int .u32 x):=by rw [hq.cell (p:=⟨bd,od+m,none⟩) (lt_of_cell c1)];exact c1
    have CA:=Lib.hid (fun W (hE:Ext W1 W)=>refShl_top a k ao n ca W (ha1.below hE) hk (by omega))
    have CB:=Lib.hid (fun W (hE:Ext W1 W)=>refShl_top b k (some ⟨bd,od,none⟩) (m+1) cb W (hb1.below hE) hk (by omega))
    have HQ:=Lib.hid (show Ext w W1 from hq)
    go_wp2_with fail
    refine (Tryz.bits_LeadingZeros32 x _ x0 (by omega)).mono ?_
    rintro e w2 ⟨rfl,rfl⟩
    rw [HLZ.out]
    clear c1 c2 ha1 hb1 ha hb hq
    go_upto_region 5 with fail
    have st:Ext w2 w2.drew:=(Below.refl _ _).drew
    go_cut [8,9] from 10 (fun p r wx=>∃ g cu U0 T h ch L0 Tv,p=.slice (some ⟨g,0,none⟩) (n+1) cu∧r=.slice (some ⟨h,0,none⟩) (m+1) ch∧w2.heap.size≤g∧g<h∧UB wx g U0 T∧UB wx h L0 Tv∧Wf U0∧U0.length=n+1∧num U0=((a*2^k:Nat):Int)∧Wf L0∧L0.length=m+1+1∧num L0=((b*2^k:Nat):Int)∧n+1≤cu∧m+1≤ch∧Ext w2 wx)
    case first =>
      go_region_with (first
        | (go_at_call 202;(with_reducible refine (CA.out _ st).mono ?_);rintro e wa ⟨g,cu,U0,T,rfl,hg0,hub,hwU0,hUl0,hUn0,hcu,hEa⟩;have sta:Ext w2 wa:=Ext.trans st hEa)
        | (go_at_call 202;(with_reducible refine (CB.out _ sta).mono ?_);rintro e wb ⟨h,ch,L0,Tv,rfl,hh0,hvb,hwL0,hLl0,hLn0,hch,hEb⟩;have stb:Ext w2 wb:=Ext.trans sta hEb;have hslc:(m:Int)+1≤(ch:Int):=by omega))
      all_goals
        go_wp2
        go_meet
      all_goals
        exact ⟨g,cu,U0,T,h,ch,L0,Tv,rfl,rfl,hg0,Nat.lt_of_lt_of_le hub.lt hh0,hub.below hEb,hvb,hwU0,hUl0,hUn0,hwL0,hLl0,hLn0,hcu,by omega,stb⟩
    case rest =>
      obtain ⟨g,cu,U0,T,h,ch,L0,Tv,rfl,rfl,hg0,hgh,hub,hvb,hwU0,hUl0,hUn0,hwL0,hLl0,hLn0,hcu,hch,hEc⟩:=hcut
      obtain ⟨W4,hW4⟩:∃ W4,W4=wc:=⟨wc,rfl⟩
      subst hW4
      have HQ4:=Lib.hid (Ext.trans HQ.out hEc)
      have hBg:w.heap.size≤g:=by have:=Below.size HQ.out;omega
      have e6:(((n:Int)+1) == (n:Int))=false:=by apply beq_eq_false_iff_ne.2;omega
      clear CA CB st HQ HLZ hEc hg0 x0 x1
      obtain ⟨nk,hnq⟩:∃ nk:Nat,(n:Int) - ((m:Int)+1)+1=nk:=⟨n - m,by omega⟩
      have HNQ:=Lib.hid hnq
      have hnq1:nk≤100000000:=by omega
      have HNQ2:=Lib.hid (show nk=n - m by omega)
      go_wp2_with (refine wpList_make_u32 _ rfl _ _ rfl _ nk rfl rfl (by omega) (by omega) ?_)
      intro W6 hb6 hw6
      have hu6:=hub.below hw6
      have hv6:=hvb.below hw6
      have hB6:Below w.heap.size w W6:=Below.trans HQ4.out (hw6.mono (Below.size HQ4.out))
      have hgq:=hvb.lt
      generalize hGe:W4.heap.size=gq at *
      clear hw6 hub hvb hGe
      have hstart:Knuth ((a*2^k:Nat):Int) ((b*2^k:Nat):Int) U0 (List.replicate nk 0) (n+1) nk nk:=by
        refine ⟨hUl0,by simp,hwU0,Wf.replicate _,?_,?_⟩
        · rw [hUn0,List.drop_eq_nil_of_le (by simp)];simp [num]
        · rw [hUn0,HNQ2.out];exact HAB.out
      have hds:(L0.take (m+1)).length=m+1:=by rw [List.length_take,hLl0];omega
      have hdn:num (L0.take (m+1))=((b*2^k:Nat):Int):=by
        have h1:=num_take_next L0 (m+1)
        rw [List.take_of_length_le (by rw [hLl0];exact Nat.le_refl _),hLn0] at h1
        have h2:=hwL0.getD (m+1)
        have h3:=num_nonneg (hwL0.take (m+1))
        have h4:=HV1.out
        have h5:=pow_pos' (m+1)
        have h6:L0.getD (m+1) 0=0:=by
          rcases Int.lt_or_eq_of_le h2.1 with h | h
          · have:=Int.mul_le_mul_of_nonneg_left (show 1≤L0.getD (m+1) 0 by omega) (Int.le_of_lt h5)
            omega
          · exact h.symm
        rw [h6,Int.mul_zero,Int.add_zero] at h1
        exact h1.symm
      have hwd:=hwL0.take (m+1)
      have hdt:0<L0.getD m 0:=by
        have h1:=num_take_next L0 m
        rw [hdn] at h1
        have h2:=num_lt (hwL0.take m)
        rw [List.length_take,hLl0,Nat.min_eq_left (by omega)] at h2
        have h3:=HV2.out
        have h4:=(hwL0.getD m).1
        rcases Int.lt_or_eq_of_le h4 with h | h
        · exact h
        · rw [←h,Int.mul_zero,Int.add_zero] at h1;omega
      have hdf:4294967296^m*L0.getD m 0≤((b*2^k:Nat):Int):=by
        have h1:=num_take_next L0 m
        rw [hdn] at h1
        have h2:=num_nonneg (hwL0.take m)
        omega
      have hdr:=hwL0.getD m
      obtain ⟨f,hf⟩:∃ f,L0.getD m 0=f:=⟨_,rfl⟩
      rw [hf] at hdt hdf hdr
      have HF:=Lib.hid hf
      have HDF:=Lib.hid hdf
      have HDS:=Lib.hid hds
      have HDN:=Lib.hid hdn
      have HWD:=Lib.hid hwd
      have HLL:=Lib.hid hLl0
      have f0:¬ f=0:=by omega
      have f1:=hdr.2
      clear hf hds hdn hwd hdf hLn0 hwL0 hUn0 hwU0 hUl0 hdr
      have hgne:g≠gq:=by omega
      have hhne:h≠gq:=by omega
      have hghn:g≠h:=by omega
      go_wp2
      go_loopw [11,12,13] (fun i _ _ wr=>∃ (j:Nat) (U Q:List Int),j≤nk∧i=.int .i64 ((j:Int) - 1)∧Knuth ((a*2^k:Nat):Int) ((b*2^k:Nat):Int) U Q (n+1) nk j∧UB wr g U T∧UB wr h L0 Tv∧Blk wr gq Q∧Below w.heap.size w wr)
        (fun i _ _ _=>(intOf i+1).toNat)
      case atStart=>exact ⟨nk,U0,_,Nat.le_refl _,congrArg (Value.int .i64) (by have:=HNQ.out;omega),hstart,hu6,hv6,hb6,hB6⟩
      case round =>
        obtain ⟨j,U,Q,hj,rfl,hK,hub,hvb,hbq,hB⟩:=hrel
        have HK:=Lib.hid hK;clear hK
        by_cases hlt:0<j
        · obtain ⟨t,rfl⟩:∃ t,j=t+1:=⟨j - 1,by omega⟩
          have ej:((t+1:Nat):Int) - 1=(t:Int):=by omega
          rw [ej]
          clear ej
          have hfit:t+(m+1+1)≤n+1:=by have:=HNQ2.out;omega
          have hUl:=HK.out.1
          have hQl:=HK.out.2.1
          have hwU:=HK.out.2.2.1
          have hwin:=HK.out.window (m:=m+1) HV1.out hfit
          have c1:=hub.cell (t+(m+1)) (by rw [hUl];omega)
          have c2:=hub.cell (t+m) (by rw [hUl];omega)
          have c3:=hvb.cell m (by rw [HLL.out];omega)
          rw [HF.out] at c3
          have r1:=hwU.getD (t+(m+1))
          have r2:=hwU.getD (t+m)
          obtain ⟨y1,hy1⟩:∃ y,U.getD (t+(m+1)) 0=y:=⟨_,rfl⟩
          obtain ⟨y0,hy0⟩:∃ y,U.getD (t+m) 0=y:=⟨_,rfl⟩
          rw [hy1] at c1 r1
          rw [hy0] at c2 r2
          have hor:bits BinOp.or IntKind.u64 (y1*4294967296) y0=y1*4294967296+y0:=by
            obtain ⟨p1,rfl⟩:=Int.eq_ofNat_of_zero_le r1.1
            obtain ⟨p0,rfl⟩:=Int.eq_ofNat_of_zero_le r2.1
            have h:=or_add (a:=p1) (b:=p0) (k:=32) (by omega) (by omega)
            rw [show ((p1*2^32:Nat):Int)=(p1:Int)*4294967296 by omega] at h
            rw [h]
            omega
          have hws:IntKind.u64.wrap (y1*4294967296)=y1*4294967296:=by rw [IntKind.wrap_u64];omega
          have hx1:(t:Int)+((m:Int)+1)<(n:Int)+1:=by omega
          have hx2:(t:Int)+((m:Int)+1) - 1<(n:Int)+1:=by omega
          have hx3:(0:Int)≤(t:Int)+((m:Int)+1) - 1:=by omega
          have hx4:(0:Int)≤(t:Int)+((m:Int)+1):=by omega
          have hx5:((t:Int)+((m:Int)+1) - 1).toNat=t+m:=by omega
          have hx6:((t:Int)+((m:Int)+1)).toNat=t+(m+1):=by omega
          have HY1:=Lib.hid hy1
          have HY0:=Lib.hid hy0
          have HWIN:=Lib.hid hwin
          clear hy1 hy0 hwin
          go_wp2
          go_quiet (fail)
          go_wp2
          obtain ⟨W8,hW8,hq8⟩:=drewN_world wr nq
          rw [hW8]
          clear hW8
          have hub8:=hub.below hq8
          have hvb8:=hvb.below hq8
          have hbq8:=hbq.below hq8
          have hB8:Below w.heap.size w W8:=Below.trans hB (hq8.mono (Below.size hB))
          have htop:num ((U.drop t).take (m+1+1))<(y1*4294967296+y0+1)*4294967296^m:=by
            have g1:=getD_window U t (m+1+1) (m+1) (by omega)
            have g2:=getD_window U t (m+1+1) m (by omega)
            rw [HY1.out] at g1
            rw [HY0.out] at g2
            have hwl:((U.drop t).take (m+1+1)).length=m+1+1:=by rw [List.length_take,List.length_drop];omega
            have hww:=(hwU.drop t).take (m+1+1)
            generalize (U.drop t).take (m+1+1)=X at *
            have a1:=num_take_next X (m+1)
            have a2:=num_take_next X m
            rw [List.take_of_length_le (by rw [hwl];exact Nat.le_refl _),g1] at a1
            rw [g2] at a2
            have a3:=num_lt (hww.take m)
            rw [List.length_take,hwl,Nat.min_eq_left (by omega)] at a3
            rw [a1,a2,Int.pow_succ]
            have e1:(y1*4294967296+y0+1)*(4294967296:Int)^m=4294967296^m*y0+4294967296^m*4294967296*y1+4294967296^m:=by
              rw [Int.add_mul,Int.add_mul,Int.one_mul,Int.mul_comm y0,Int.mul_assoc (4294967296^m) 4294967296 y1,Int.mul_comm 4294967296 y1,Int.mul_comm (y1*4294967296)]
              omega
            rw [e1]
            omega
          have hgs:=guess_ge (V:=((b*2^k:Nat):Int)) (pow_pos' m) hdt htop (by rw [Int.mul_comm];exact HDF.out) (by omega)
          have hv0:=HV0.out
          obtain ⟨Z,hZ⟩:∃ Z,num ((U.drop t).take (m+1+1)) / ((b*2^k:Nat):Int)=Z:=⟨_,rfl⟩
          have hZ0:0≤Z:=by rw [←hZ];exact Int.ediv_nonneg (num_nonneg ((hwU.drop t).take _)) (Int.le_of_lt hv0)
          have hZ1:Z<4294967296:=by rw [←hZ];exact Int.ediv_lt_of_lt_mul hv0 (by rw [Int.mul_comm];exact HWIN.out.2.2)
          rw [hZ] at hgs
          obtain ⟨G0,hG0⟩:∃ G0,min ((y1*4294967296+y0) / f) 4294967295=G0:=⟨_,rfl⟩
          rw [hG0]
          have hG1:Z≤G0:=by rw [←hG0];omega
          have hG2:G0≤4294967295:=by rw [←hG0];omega
          have HZ:=Lib.hid hZ
          clear hG0 hgs htop hZ hub hvb hbq hB hq8 hv0 c1 c2 c3 hor hws hx1 hx2 hx3 hx4 hx5 hx6 r1 r2 HY1 HY0
          go_loopw [13] (fun gs wx=>∃ G:Int,gs=.int .u64 G∧Z≤G∧G≤4294967295∧UB wx g U T∧UB wx h L0 Tv∧Blk wx gq Q∧Below w.heap.size w wx)
            (fun gs _=>(intOf gs).toNat)
          case atStart=>exact ⟨G0,rfl,hG1,hG2,hub8,hvb8,hbq8,hB8⟩
          case round =>
            obtain ⟨G,rfl,hg1,hg2,hub,hvb,hbq,hB⟩:=hrel
            have hsl:Sl wr (some ⟨h,0,none⟩) (m+1) ch (L0.take (m+1)):=⟨HDS.out,hch,by omega,HWD.out,hvb.at.take (m+1)⟩
            have hst:Stay g wr (some ⟨h,0,none⟩) (L0.take (m+1)):=fun w' ho=>(hvb.only ho (Ne.symm hghn)).at.take (m+1)
            clear hub8 hvb8 hbq8 hB8 hG1 hG2
            go_wp2_with fail
            refine (refTake_any g t (m+1) (n+1) cu ch U (L0.take (m+1)) T (some ⟨h,0,none⟩) G _ hUl hfit (by omega) hwU hub hsl hst (by omega) hg2).mono ?_
            rintro e w9 (⟨rfl,hlt9,hb9⟩ | ⟨rfl,V',hVl,hVw,hVn,hu9,w8,hb9,ho9⟩)
            · rw [HDN.out] at hlt9
              have hz9:=digit_less HV0.out hlt9
              rw [HZ.out] at hz9
              have hwg:IntKind.u64.wrap (G - 1)=G - 1:=by rw [IntKind.wrap_u64];omega
              have hub9:=hub.below hb9
              have hvb9:=hvb.below hb9
              have hbq9:=hbq.below hb9
              have hB9:Below w.heap.size w w9:=Below.trans hB (hb9.mono (Below.size hB))
              clear hlt9 hub hvb hbq hB hsl hst hb9
              go_wp2
              go_roundw
              case rel=>exact ⟨G - 1,rfl,hz9,by omega,hub9,hvb9,hbq9,hB9⟩
              case measure=>simp [intOf] <;> omega
            · rw [HDN.out] at hVn
              have hvn0:=num_nonneg hVw
              have hdg:=digit_is (q:=G) HV0.out (by rw [HZ.out];exact hg1) (by omega)
              rw [HZ.out] at hdg
              obtain ⟨rfl,hmod⟩:=hdg
              rw [hmod] at hVn
              have hstp:=HK.out.step HV0.out HV1.out hfit (by omega) hVl hVw hVn
              rw [HZ.out] at hstp
              have hvb9:=(hvb.below hb9).only ho9 (Ne.symm hghn)
              have hbq9:=(hbq.below hb9).only ho9 (Ne.symm hgne)
              have hB9:Below w.heap.size w w9:=Below.trans (Below.trans hB (hb9.mono (Below.size hB))) (ho9.below hBg)
              have c4:=hbq9.frozen t
              have c5:=hbq9.cell t (by omega)
              have hgm:G % 4294967296=G:=Int.emod_eq_of_lt hZ0 hZ1
              have hwj:IntKind.i64.wrap ((t:Int) - 1)=(t:Int) - 1:=IntWalk.i64_in _ ⟨by omega,by omega⟩
              have HSTP:=Lib.hid hstp
              have hgq9:w.heap.size≤gq:=by omega
              clear hub hvb hbq hB hsl hst hb9 hmod hVn hstp hvn0 hVl hVw ho9
              go_wp2
              go_roundw
              case rel=>exact ⟨t,_,_,by omega,rfl,HSTP.out,UB.only hu9 ((Only.refl gq w9).setCell _ _) hgne,UB.only hvb9 ((Only.refl gq w9).setCell _ _) hhne,hbq9.set _ _,Below.trans hB9 (((Only.refl gq w9).setCell _ _).below hgq9)⟩
              case measure=>simp [intOf] <;> omega
        · obtain rfl:j=0:=by omega
          obtain ⟨hUl,hQl,hwU,hwQ,he,hltv⟩:=HK.out
          rw [Int.pow_zero,Int.one_mul,List.drop_zero] at he
          rw [Int.pow_zero,Int.mul_one] at hltv
          obtain ⟨hq1,hr1⟩:=HDM.out _ _ he (num_nonneg hwU) hltv
          have HQ1:=Lib.hid hq1
          have HR1:=Lib.hid hr1
          clear he hltv hq1 hr1
          have hsq:=hbq.sl hwQ hQl (by omega) (Nat.le_refl nk)
          have hsu:=hub.sl hwU hUl (by omega) hcu
          clear hub hvb hbq
          go_wp2_with fail
          refine (refTrim_any _ _ _ U wr hsu).mono ?_
          rintro e w8 ⟨uo,ul,uc,rfl,hu8,hul,hb8⟩
          rw [HR1.out,Int.toNat_natCast] at hu8
          have hsq:=hsq.below hb8
          have hB8:Below w.heap.size w w8:=Below.trans hB (hb8.mono (Below.size hB))
          clear hsu hB hb8
          go_wp2_with fail
          refine (refShr_num (a % b*2^k) k _ _ _ _ hu8 (by omega) (by omega)).mono ?_
          rintro e w9 ⟨so,sl,sc,L,rfl,hs9,hn9,hl9,hb9⟩
          rw [Nat.mul_div_cancel _ (Nat.pos_of_ne_zero (by simp))] at hn9
          have hsq:=hsq.below hb9
          have hB9:Below w.heap.size w w9:=Below.trans hB8 (hb9.mono (Below.size hB8))
          clear hu8 hb9 hB8
          generalize decide (a % b*2^k % 2^k≠0)=lost
          go_wp2_with fail
          refine (refTrim_any _ _ _ Q w9 hsq).mono ?_
          rintro e w10 ⟨qo,ql,qc,rfl,hq10,hql,hb10⟩
          rw [HQ1.out,Int.toNat_natCast] at hq10
          have hs9:=hs9.below hb10
          have hB10:Below w.heap.size w w10:=Below.trans hB9 (hb10.mono (Below.size hB9))
          clear hsq hb10 hB9
          go_wp2_with fail
          refine (refTrim_any _ _ _ L w10 hs9).mono ?_
          rintro e w11 ⟨ro,rl,rc,rfl,hr11,hrl,hb11⟩
          rw [hn9,Int.toNat_natCast] at hr11
          have hq11:=hq10.below hb11
          have HB11:=Lib.hid (show Ext w w11 from Below.trans hB10 (hb11.mono (Below.size hB10)))
          have HR11:=Lib.hid hr11
          have HQ11:=Lib.hid hq11
          clear hr11 hq11 hb11 hB10 hs9 hq10
          go_wp2
          go_ret2
          exact ⟨_,_,_,_,_,_,rfl,HQ11.out,HR11.out,HB11.out⟩
open Go Go.RowKit
theorem boxes_four (w:World) (nb:Bool) (ao:Option Addr) (n ca:Nat) (mb:Bool) (bo:Option Addr) (m cb:Nat) :
    ∃ W,W=(((w.alloc (.cells #[.bool nb,.slice ao n ca] 36)).alloc (.cells #[.bool mb,.slice bo m cb] 36)).alloc (.cells #[.bool false,.slice none 0 0] 36)).alloc (.cells #[.bool false,.slice none 0 0] 36)∧Below w.heap.size w W ∧
      Box W w.heap.size nb ao n ca∧Box W (w.heap.size+1) mb bo m cb∧Box W (w.heap.size+2) false none 0 0∧Box W (w.heap.size+3) false none 0 0∧W.heap.size=w.heap.size+4:=by
  obtain ⟨W1,hW1,h1,h2,h3,h4,h5⟩:=boxes2 w nb ao n ca mb bo m cb
  have hsz:W1.heap.size=w.heap.size+3:=by rw [hW1];simp
  refine ⟨_,rfl,?_,?_,?_,?_,?_,?_⟩
  all_goals rw [←hW1]
  · exact h1.alloc (by omega) _
  · exact h2.below (ext_allocB _ _)
  · exact h3.below (ext_allocB _ _)
  · exact h4.below (ext_allocB _ _)
  · have:=Box.new W1 false none 0 0
    rw [hsz] at this
    exact this
  · simp [hsz]
theorem two_bns {w w0:World} {g h B:Nat} {nb mb xn yn:Bool} {ao bo xo yo:Option Addr} {n m ca cb xk xc yk yc:Nat} {X Y:Int} (hg:Box w g nb ao n ca) (hh:Box w h mb bo m cb) (hne:g≠h) (hBg:B≤g) (hBh:B≤h)
    (hx:Bn w xn xo xk xc X) (hy:Bn w yn yo yk yc Y) (hb:Below B w0 w) :
    Bn ((((w.setCell ⟨g,0,none⟩ (.bool xn)).setCell ⟨g,1,none⟩ (.slice xo xk xc)).setCell ⟨h,0,none⟩ (.bool yn)).setCell ⟨h,1,none⟩ (.slice yo yk yc)).drew xn xo xk xc X ∧
    Bn ((((w.setCell ⟨g,0,none⟩ (.bool xn)).setCell ⟨g,1,none⟩ (.slice xo xk xc)).setCell ⟨h,0,none⟩ (.bool yn)).setCell ⟨h,1,none⟩ (.slice yo yk yc)).drew yn yo yk yc Y ∧
    Below B w0 ((((w.setCell ⟨g,0,none⟩ (.bool xn)).setCell ⟨g,1,none⟩ (.slice xo xk xc)).setCell ⟨h,0,none⟩ (.bool yn)).setCell ⟨h,1,none⟩ (.slice yo yk yc)).drew ∧
    Box ((((w.setCell ⟨g,0,none⟩ (.bool xn)).setCell ⟨g,1,none⟩ (.slice xo xk xc)).setCell ⟨h,0,none⟩ (.bool yn)).setCell ⟨h,1,none⟩ (.slice yo yk yc)).drew g xn xo xk xc ∧
    Box ((((w.setCell ⟨g,0,none⟩ (.bool xn)).setCell ⟨g,1,none⟩ (.slice xo xk xc)).setCell ⟨h,0,none⟩ (.bool yn)).setCell ⟨h,1,none⟩ (.slice yo yk yc)).drew h yn yo yk yc:=by
  obtain ⟨a1,a2,a3,a4,a5⟩:=two_stored hg hh hne hBg hBh xn yn xo yo xk yk xc yc _ _ hx.sl hy.sl
  exact ⟨⟨hx.neg,a3.drew⟩,⟨hy.neg,a4.drew⟩,(Below.trans hb a5).drew,a1.drew,a2.drew⟩
theorem make1_ent (so:Option Addr) (k sc:Nat) (N:Nat) {V W:World} {L:List REnt} (hst:RSt V W L) (hs:Sl W so k sc (limbs N)) :
    Calls Tryz.prog 177 #[.bool false,.slice so k sc] W fun e w'=>∃ xn xo xk xc,e=.returned (.agg #[.bool xn,.slice xo xk xc])∧Ext W w'∧RSt V w' (⟨.agg #[.bool xn,.slice xo xk xc],false,limbs N⟩ :: L):=by
  refine (make1_any false so k sc (limbs N) W hs).mono fun e w' ⟨nr,ro,l,cr,he,hn,_,hw⟩=>⟨nr,ro,l,cr,he,hw,hst.ext.trans hw,fun p hp=>?_⟩
  rcases List.mem_cons.1 hp with rfl | hp
  · have hx:sgd false (limbs N)=(N:Int):=by show num (limbs N)=_;rw [num_limbs]
    rw [hx] at hn
    have h1:=hn.neg
    have h2:=hn.sl
    rw [Int.natAbs_natCast] at h2
    rw [show decide ((N:Int)<0)=false by simp] at h1
    subst h1
    exact ⟨ro,l,cr,rfl,h2⟩
  · exact (hst.bag p hp).ext hw
set_option maxRecDepth 100000 in
set_option maxHeartbeats 8000000 in
theorem refDivMod_pos (a b:Nat) (nb mb:Bool) (ao bo:Option Addr) (n m ca cb:Nat) (w:World) (ha:Bg w nb ao n ca (a:Int)) (hb:Bg w mb bo m cb (b:Int)) (hn:n≤100000000) (h0:b≠0) :
    Calls Tryz.prog 184 #[.agg #[.bool nb,.slice ao n ca],.agg #[.bool mb,.slice bo m cb]] w fun e w'=>∃ qn qo qk qc rn ro rk rc,e=.returned (.tuple #[.agg #[.bool qn,.slice qo qk qc],.agg #[.bool rn,.slice ro rk rc]]) ∧
      Bn w' qn qo qk qc ((a / b:Nat):Int)∧Bn w' rn ro rk rc ((a % b:Nat):Int)∧Ext w w':=by
  go_enter Tryz.func184,Tryz.ntmps184
  go_upto_region 1 with fail
  obtain ⟨W,hW,hB,hx,hy,hr,hs,hz⟩:=boxes_four w nb ao n ca mb bo m cb
  rw [←hW]
  clear hW
  have ha1:=ha.below hB
  have hb1:=hb.below hB
  generalize hBe:w.heap.size=B at *
  have HBe:=Lib.hid hBe;clear hBe ha
  go_cut [] from 10 (fun wx=>∃ pn po pk pc rn ro rk rc,Bn wx pn po pk pc (a:Int)∧Bn wx rn ro rk rc (b:Int)∧Box wx B pn po pk pc∧Box wx (B+1) rn ro rk rc∧Box wx (B+2) false none 0 0∧Box wx (B+3) false none 0 0∧pk≤n∧rk≤m∧Below B w wx∧B+4≤wx.heap.size)
  case first =>
    have k0:=hx.c0
    have k1:=hx.c1
    have l0:=hy.c0
    have l1:=hy.c1
    go_region_with (first
      | (go_at_call 172;refine (refNorm_any _ _ _ _ _ _ (by exact ha1.below (by exact (Below.refl _ _).drew))).mono ?_;rintro e w1 ⟨pn,po,pk,pc,rfl,hp,hpk,hw1⟩;have ex1:Ext W w1:=Ext.trans (by exact (Below.refl _ _).drew) hw1;have fb:=hy.below ex1;have h0:=fb.c0;have h1:=fb.c1)
      | (go_at_call 172;refine (refNorm_any _ _ _ _ _ _ (by exact hb1.below ex1)).mono ?_;rintro e w2 ⟨rn,ro,rk,rc,rfl,hq,hqk,hw2⟩;have ex2:Ext W w2:=Ext.trans ex1 hw2;have hp:=hp.below hw2;clear h0 h1;have fa:=hx.below ex2;have fb:=hy.below ex2;have a0:=fa.c0;have a1:=fa.c1;have b0:=fb.c0;have b1:=fb.c1;have g0:=fa.f 0;have g1:=fa.f 1;have h0:=fb.f 0;have h1:=fb.f 1))
    all_goals
      go_wp2
      go_meet
    all_goals
      clear a0 a1 b0 b1 g0 g1 h0 h1 k0 k1 l0 l1
      have hne:B≠B+1:=by omega
      have o1:=only_set2 w2 B (.bool pn) (.slice po pk pc)
      have u1:=fa.stored pn po pk pc
      have u2:=fb.only o1 (Ne.symm hne)
      have p1:=Bn.only_bx' hp fa o1
      have q1:=Bn.only_bx' hq fa o1
      have r1:=(hr.below ex2).only o1 (by omega)
      have s1:=(hs.below ex2).only o1 (by omega)
      generalize hW3:(w2.setCell ⟨B,0,none⟩ (.bool pn)).setCell ⟨B,1,none⟩ (.slice po pk pc)=w3 at *
      have o2:=only_set2 w3 (B+1) (.bool rn) (.slice ro rk rc)
      refine ⟨pn,po,pk,pc,rn,ro,rk,rc,Bn.only_bx' p1 u2 o2,Bn.only_bx' q1 u2 o2,u1.only o2 hne,u2.stored rn ro rk rc,r1.only o2 (by omega),s1.only o2 (by omega),hpk,hqk,?_,?_⟩
      · exact Below.trans (Below.trans (Below.trans hB (ex2.mono (by omega))) (o1.below (Nat.le_refl B))) (o2.below (Nat.le_succ B))
      · rw [o2.size,o1.size];have:=Below.size ex2;omega
  case rest =>
    obtain ⟨pn,po,pk,pc,rn,ro,rk,rc,hp,hq,bx,bY,br,bs,hpk,hrk,hB1,hz1⟩:=hcut
    obtain ⟨W1,hW1⟩:∃ W1,W1=wc:=⟨wc,rfl⟩
    subst hW1
    have e1:=hp.neg
    have e2:=hq.neg
    rw [show decide ((a:Int)<0)=false by simp] at e1
    rw [show decide ((b:Int)<0)=false by simp] at e2
    subst e1 e2
    have s1:=hp.sl
    have s2:=hq.sl
    rw [Int.natAbs_natCast] at s1 s2
    have HBL:=Lib.hid s2.len
    clear hp hq ha1 hb1 hx hy hr hs hB hz
    have k0:=bx.c0
    have k1:=bx.c1
    have l0:=bY.c0
    have l1:=bY.c1
    go_upto_region 2 with fail
    go_wp2_with fail
    refine (refDivMag_any a b _ _ _ _ _ _ _ s1 s2 h0 (by omega)).mono ?_
    rintro e V ⟨qo,qk,qc,so,sk,sc,rfl,hq1,hs1,hV⟩
    have bx:=bx.below hV
    have bY:=bY.below hV
    have br:=br.below hV
    have bs:=bs.below hV
    have hBV:Below B w V:=Below.trans hB1 (hV.mono (by omega))
    have hzV:B+4≤V.heap.size:=by have:=Below.size hV;omega
    clear k0 k1 l0 l1 s1 s2 hV hB1 hz1
    go_upto_region 3 with fail
    have hst:RSt V V []:=⟨Ext.refl V,fun p hp=>by cases hp⟩
    have std:=hst.drew
    have CQ:=Lib.hid (fun W' (h:RSt V W' [])=>make1_ent qo qk qc (a / b) h (hq1.below h.ext))
    have CR:=Lib.hid (fun W' L' (h:RSt V W' L')=>make1_ent so sk sc (a % b) h (hs1.below h.ext))
    have hcells:∀ wx,Ext V wx→(wx.cell? ⟨B,0,none⟩=some (.bool false)∧wx.cell? ⟨B,1,none⟩=some (.slice po pk pc))∧(wx.cell? ⟨B+1,0,none⟩=some (.bool false)∧wx.cell? ⟨B+1,1,none⟩=some (.slice ro rk rc)):=fun wx h =>
      ⟨⟨(bx.below h).c0,(bx.below h).c1⟩,⟨(bY.below h).c0,(bY.below h).c1⟩⟩
    have HC:=Lib.hid hcells;clear hcells
    obtain ⟨⟨p0,p1⟩,r0,r1⟩:=HC.out V (Ext.refl V)
    have TAG1:=Lib.hid trivial
    go_cut [8,9] from 10 (fun p q wx=>∃ g h xn xo xk xc yn yo yk yc,p=.pointer (some ⟨g,0,none⟩)∧q=.pointer (some ⟨h,0,none⟩) ∧
      Box wx g xn xo xk xc∧Box wx h yn yo yk yc∧RSt V wx [⟨.agg #[.bool yn,.slice yo yk yc],false,limbs (a % b)⟩,⟨.agg #[.bool xn,.slice xo xk xc],false,limbs (a / b)⟩]∧V.heap.size≤g∧V.heap.size≤h)
    case first =>
      go_region_held3 (fun wx=>(wx.cell? ⟨B,0,none⟩=some (.bool false)∧wx.cell? ⟨B,1,none⟩=some (.slice po pk pc))∧(wx.cell? ⟨B+1,0,none⟩=some (.bool false)∧wx.cell? ⟨B+1,1,none⟩=some (.slice ro rk rc)))
        ((refine ⟨?_,?_⟩;((repeat (first | with_reducible refine bcells_drew ?_ | with_reducible refine bcells_alloc ?_ | with_reducible refine bcells_stored (by omega) ?_));exact (HC.out _ (by first | with_reducible exact Ext.refl _ | with_reducible exact RSt.ext (W:=V) (by with_reducible assumption))).1);((repeat (first | with_reducible refine bcells_drew ?_ | with_reducible refine bcells_alloc ?_ | with_reducible refine bcells_stored (by omega) ?_));exact (HC.out _ (by first | with_reducible exact Ext.refl _ | with_reducible exact RSt.ext (W:=V) (by with_reducible assumption))).2)))
        (first
          | (go_at_call 177;clear TAG1;refine ((CQ.out _ (by first | with_reducible assumption | with_reducible exact RSt.drew (by with_reducible assumption) | with_reducible exact RSt.alloc (by with_reducible assumption) _ | with_reducible exact RSt.alloc (RSt.alloc (by with_reducible assumption) _) _ | with_reducible exact RSt.drew (RSt.alloc (by with_reducible assumption) _) | with_reducible exact RSt.drew (RSt.alloc (RSt.alloc (by with_reducible assumption) _) _)))).mono ?_;rintro e wn ⟨xn,xo,xk,xc,rfl,hE1,stn⟩;have sz1:=sizeB stn.ext;(first | (have y12:=bbox_in2d (w:=V) (wn:=wn) (by with_reducible assumption);have y1:Box wn V.heap.size false none 0 0:=y12.1;have y2:Box wn (V.heap.size+1) false none 0 0:=y12.2;clear y12;have yl1:=y1.lt;have yl2:=y2.lt) | (have y12:=bbox_in1d (w:=V) (wn:=wn) (by with_reducible assumption);have y1:Box wn V.heap.size false none 0 0:=y12;clear y12;have yl1:=y1.lt) | skip))
          | (go_at_call 177;refine ((CR.out _ _ (by first | with_reducible assumption | with_reducible exact RSt.drew (by with_reducible assumption) | with_reducible exact RSt.alloc (by with_reducible assumption) _ | with_reducible exact RSt.alloc (RSt.alloc (by with_reducible assumption) _) _ | with_reducible exact RSt.drew (RSt.alloc (by with_reducible assumption) _) | with_reducible exact RSt.drew (RSt.alloc (RSt.alloc (by with_reducible assumption) _) _)))).mono ?_;rintro e wm ⟨yn,yo,yk,yc,rfl,hE2,stm⟩;have sz2:=sizeB stm.ext;(first | (obtain ⟨z1,z2⟩:=bbox_in2 (w:=wn) (wn:=wm) (by with_reducible assumption);have zl1:=z1.lt;have zl2:=z2.lt;have hE3:Ext wn wm:=Ext.trans (Ext.trans (ext_allocB _ _) (ext_allocB _ _)) hE2) | (have z1:=bbox_in1 (w:=wn) (wn:=wm) (by with_reducible assumption);have zl1:=z1.lt;have hE3:Ext wn wm:=Ext.trans (ext_allocB _ _) hE2) | (have hE3:Ext wn wm:=hE2));(first | (have y2:=y2.below hE3;have ym2:=y2.lt;have v0:=y2.c0;have v1:=y2.c1;have v2:=y2.f 0;have v3:=y2.f 1) | skip);(first | (have y1:=y1.below hE3;have ym1:=y1.lt;have u0:=y1.c0;have u1:=y1.c1;have u2:=y1.f 0;have u3:=y1.f 1) | skip);(first | (have s0:=z1.c0;have s1:=z1.c1;have s2:=z1.f 0;have s3:=z1.f 1) | skip);(first | (have t0:=z2.c0;have t1:=z2.c1;have t2:=z2.f 0;have t3:=z2.f 1) | skip)))
      all_goals
        try clear u0 u1 u2 u3
        try clear v0 v1 v2 v3
        try clear s0 s1 s2 s3
        try clear t0 t1 t2 t3
        go_wp2
        go_meet
      all_goals
        refine ⟨_,_,xn,xo,xk,xc,yn,yo,yk,yc,rfl,rfl,?_⟩
        first
          | (have _t:=y2;first | (have F:=bpair_stored (xn:=xn) (xo:=xo) (xk:=xk) (xc:=xc) (yn:=yn) (yo:=yo) (yk:=yk) (yc:=yc) y1 y2 (by omega) stm (by omega) (by omega);with_reducible exact ⟨F.1,F.2.1,F.2.2,by omega,by omega⟩) | (have F:=bpair_stored (xn:=xn) (xo:=xo) (xk:=xk) (xc:=xc) (yn:=yn) (yo:=yo) (yk:=yk) (yc:=yc) y2 y1 (by omega) stm (by omega) (by omega);with_reducible exact ⟨F.1,F.2.1,F.2.2,by omega,by omega⟩))
          | (have _t:=z2;first | (have F:=bpair_stored (xn:=xn) (xo:=xo) (xk:=xk) (xc:=xc) (yn:=yn) (yo:=yo) (yk:=yk) (yc:=yc) z1 z2 (by omega) stm (by omega) (by omega);with_reducible exact ⟨F.1,F.2.1,F.2.2,by omega,by omega⟩) | (have F:=bpair_stored (xn:=xn) (xo:=xo) (xk:=xk) (xc:=xc) (yn:=yn) (yo:=yo) (yk:=yk) (yc:=yc) z2 z1 (by omega) stm (by omega) (by omega);with_reducible exact ⟨F.1,F.2.1,F.2.2,by omega,by omega⟩))
          | (have _t:=y1;have _t2:=z1;first | (have F:=bpair_stored (xn:=xn) (xo:=xo) (xk:=xk) (xc:=xc) (yn:=yn) (yo:=yo) (yk:=yk) (yc:=yc) y1 z1 (by omega) stm (by omega) (by omega);with_reducible exact ⟨F.1,F.2.1,F.2.2,by omega,by omega⟩) | (have F:=bpair_stored (xn:=xn) (xo:=xo) (xk:=xk) (xc:=xc) (yn:=yn) (yo:=yo) (yk:=yk) (yc:=yc) z1 y1 (by omega) stm (by omega) (by omega);with_reducible exact ⟨F.1,F.2.1,F.2.2,by omega,by omega⟩))
          | (have _t:=y1;first | (have F:=bfin_mix (xn:=xn) (xo:=xo) (xk:=xk) (xc:=xc) (yn:=yn) (yo:=yo) (yk:=yk) (yc:=yc) stm y1 (by omega);with_reducible exact ⟨F.1,F.2.1,F.2.2,by omega,by omega⟩) | (have F:=bfin_mix (xn:=yn) (xo:=yo) (xk:=yk) (xc:=yc) (yn:=xn) (yo:=xo) (yk:=xk) (yc:=xc) stm y1 (by omega);with_reducible exact ⟨F.2.1,F.1,F.2.2,by omega,by omega⟩))
          | (have _t:=z1;first | (have F:=bfin_mix (xn:=xn) (xo:=xo) (xk:=xk) (xc:=xc) (yn:=yn) (yo:=yo) (yk:=yk) (yc:=yc) stm z1 (by omega);with_reducible exact ⟨F.1,F.2.1,F.2.2,by omega,by omega⟩) | (have F:=bfin_mix (xn:=yn) (xo:=yo) (xk:=yk) (xc:=yc) (yn:=xn) (yo:=xo) (yk:=xk) (yc:=xc) stm z1 (by omega);with_reducible exact ⟨F.2.1,F.1,F.2.2,by omega,by omega⟩))
          | (have F:=bfin_new (xn:=xn) (xo:=xo) (xk:=xk) (xc:=xc) (yn:=yn) (yo:=yo) (yk:=yk) (yc:=yc) stm;with_reducible exact ⟨F.1,F.2.1,F.2.2,by omega,by omega⟩)
          | (have F:=bfin_new (xn:=yn) (xo:=yo) (xk:=yk) (xc:=yc) (yn:=xn) (yo:=xo) (yk:=xk) (yc:=xc) stm;with_reducible exact ⟨F.2.1,F.1,F.2.2,by omega,by omega⟩)
    obtain ⟨g,h,xn,xo,xk,xc,yn,yo,yk,yc,rfl,rfl,hx,hy,hst2,hg1,hh1⟩:=hcut
    obtain ⟨V2,hV2⟩:∃ V2,V2=wc:=⟨wc,rfl⟩
    subst hV2
    obtain ⟨_,_,_,e1,hs1⟩:=(hst2.bag _ (List.Mem.tail _ (List.Mem.head _))).parts
    cases e1
    obtain ⟨_,_,_,e2,hs2⟩:=(hst2.bag _ (List.Mem.head _)).parts
    cases e2
    have br:=br.below hst2.ext
    have bs:=bs.below hst2.ext
    have hB2:Below B w V2:=Below.trans hBV (hst2.ext.mono (by omega))
    have hz2:B+4≤V2.heap.size:=by have:=Below.size hst2.ext;omega
    have hbn:Bn V2 false yo yk yc ((a % b:Nat):Int):=⟨(decide_eq_false (Int.not_lt.2 (Int.natCast_nonneg _))).symm,by rw [Int.natAbs_natCast];exact hs2⟩
    have hykl:yk≤1000000000:=by
      have h1:=hs2.len
      have h2:=len_le_of_le (Nat.le_of_lt (Nat.mod_lt a (Nat.pos_of_ne_zero h0)))
      rw [h1,HBL.out] at h2
      have h3:=hb.small
      omega
    have hsg:=refSign_any _ _ _ _ _ V2 (hbn.bg hykl)
    obtain ⟨sg,hsgv⟩:∃ sg,sgn3 ((a % b:Nat):Int) 0=sg:=⟨_,rfl⟩
    rw [hsgv] at hsg
    have hsg0:decide (sg<0)=false:=by rw [←hsgv];unfold sgn3;rw [if_neg (by omega)];split <;> simp
    have HSG:=Lib.hid hsg
    clear hsgv hsg hst std hst2 bx bY hBV HC CQ CR hq1 hbn
    have k0:=hy.c0
    have k1:=hy.c1
    go_wp2_with fail
    refine HSG.out.mono ?_
    rintro e V3 ⟨rfl,hV3⟩
    have hx:=hx.below hV3
    have hy:=hy.below hV3
    have br:=br.below hV3
    have bs:=bs.below hV3
    have hs1:=hs1.below hV3
    have hs2:=hs2.below hV3
    have hB3:Below B w V3:=Below.trans hB2 (hV3.mono (by omega))
    have hz3:=Below.size hV3
    clear k0 k1 hV3 hB2 HSG
    have k0:=hy.c0
    have k1:=hy.c1
    have l0:=hx.c0
    have l1:=hx.c1
    have q0:=br.c0
    have q1:=br.c1
    have q2:=br.f 0
    have q3:=br.f 1
    have t0:=bs.c0
    have t1:=bs.c1
    have t2:=bs.f 0
    have t3:=bs.f 1
    have hres:=two_bns br bs (by omega) (B:=B) (by omega) (by omega) (show Bn V3 false xo xk xc ((a / b:Nat):Int) from ⟨(decide_eq_false (Int.not_lt.2 (Int.natCast_nonneg _))).symm,by rw [Int.natAbs_natCast];exact hs1⟩) (show Bn V3 false yo yk yc ((a % b:Nat):Int) from ⟨(decide_eq_false (Int.not_lt.2 (Int.natCast_nonneg _))).symm,by rw [Int.natAbs_natCast];exact hs2⟩) hB3
    have HRES:=Lib.hid hres;clear hres
    have n1:¬ h=B+1+1:=by omega
    have n2:¬ B+1+1=h:=by omega
    have n3:¬ g=B+1+1:=by omega
    have n4:¬ B+1+1=g:=by omega
    have n5:¬ h=B+1+1+1:=by omega
    have n6:¬ B+1+1+1=h:=by omega
    have n7:¬ g=B+1+1+1:=by omega
    have n8:¬ B+1+1+1=g:=by omega
    go_wp2
    go_region
    obtain ⟨r1,r2,r3,r4,r5⟩:=HRES.out
    generalize hWe:World.drew _=V9 at r1 r2 r3 r4 r5 ⊢
    have z0:=r4.c0
    have z1:=r4.c1
    have z2:=r5.c0
    have z3:=r5.c1
    have R:=Lib.hid (And.intro r1 (And.intro r2 r3))
    clear r1 r2 r3 r4 r5 hWe q0 q1 t0 t1 HRES
    go_wp2
    refine bodyPost_ret (v:=.tuple #[.agg #[.bool false,.slice xo xk xc],.agg #[.bool false,.slice yo yk yc]]) (by simp [results,Tryz.results184,go_sem,z0,z1,z2,z3]) rfl ⟨false,xo,xk,xc,false,yo,yk,yc,rfl,R.out.1,R.out.2.1,?_⟩
    show Below _ _ _;rw [HBe.out];exact R.out.2.2
end Go.Proofs.YtkomhemjodbkpaaGreatDoor
