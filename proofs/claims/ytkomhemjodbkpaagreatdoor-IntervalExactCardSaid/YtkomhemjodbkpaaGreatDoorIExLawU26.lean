import Derived.Test.YtkomhemjodbkpaaGreatDoorIExLawU25
import Derived.Test.YtkomhemjodbkpaaGreatDoorIExLawU13
import Derived.Test.YtkomhemjodbkpaaGreatDoorIExLawU19
import Derived.Test.YtkomhemjodbkpaaGreatDoorIExLawU12
namespace Go.Proofs.YtkomhemjodbkpaaGreatDoor
open Go.RowKit
theorem Bn.only_bx' {w w':World} {g:Nat} {nb mb:Bool} {ao ro:Option Addr} {n cap k cr:Nat} {x:Int} (h:Bn w mb ro k cr x) (hx:Box w g nb ao n cap) (ho:Only g w w'):Bn w' mb ro k cr x:=⟨h.neg,h.sl.only_box hx ho⟩
def halfV (N n:Nat) (more:Bool):Int:=if n=0 then -1 else if N / 2^(n - 1) % 2=0 then -1 else if more||decide (N % 2^(n - 1)≠0) then 1 else 0
def cutV (neg:Bool) (N n:Nat) (more:Bool) (mode:Int):Nat:=N / 2^n+(if fup neg mode (N / 2^n) (N % 2^n) (2^n) more then 1 else 0)
theorem cut_none (neg:Bool) {N n:Nat} (mode:Int) (h:N % 2^n=0):cutV neg N n false mode=N / 2^n:=by
  unfold cutV
  rw [h]
  have hp:0<2^n:=Nat.pow_pos (by omega)
  have:fup neg mode (N / 2^n) 0 (2^n) false=false:=by
    unfold fup
    simp <;> omega
  rw [this]
  simp
theorem cut_some (neg:Bool) {N n:Nat} (more:Bool) (mode:Int) (h:more=true∨N % 2^n≠0):cutV neg N n more mode=N / 2^n+(if upB neg (halfV N n more) (decide (N / 2^n % 2=1)) mode then 1 else 0):=by
  unfold cutV
  congr 2
  have hor:(decide (N % 2^n≠0)||more)=true:=by
    rcases h with h | h
    · rw [h];simp
    · rw [decide_eq_true h];rfl
  unfold fup upB
  by_cases h1:mode=1
  · rw [if_pos h1,if_pos h1,hor,Bool.and_true]
  · rw [if_neg h1,if_neg h1]
    by_cases h2:mode=2
    · rw [if_pos h2,if_pos h2,hor,Bool.and_true]
    · rw [if_neg h2,if_neg h2]
      by_cases h3:mode=3
      · rw [if_pos h3,if_pos h3]
      · rw [if_neg h3,if_neg h3]
        cases n with
        | zero =>
          have e1:halfV N 0 more = -1:=by unfold halfV;rw [if_pos rfl]
          rw [e1,Nat.pow_zero,Nat.mod_one]
          simp
        | succ k =>
          have hp:0<2^k:=Nat.pow_pos (by omega)
          have e0:N % 2^(k+1)=N % 2^k+2^k*(N / 2^k % 2):=by
            rw [Nat.pow_succ,Nat.mod_mul]
          have hlt:=Nat.mod_lt N hp
          have e1:halfV N (k+1) more=if N / 2^k % 2=0 then -1 else if more||decide (N % 2^k≠0) then 1 else 0:=by
            unfold halfV;rw [if_neg (by omega),Nat.add_sub_cancel]
          rw [e1,e0,Nat.pow_succ]
          generalize N % 2^k=low at *
          generalize N / (2^k*2) % 2=odd at *
          generalize 2^k=P at *
          rcases Nat.mod_two_eq_zero_or_one (N / P) with hb | hb
          · rw [hb,if_pos rfl,Nat.mul_zero,Nat.add_zero]
            have a1:¬ P*2<2*low:=by omega
            have a2:¬ P*2=2*low:=by omega
            rw [decide_eq_false a1,decide_eq_false a2]
            rfl
          · rw [hb,if_neg (by omega),Nat.mul_one]
            by_cases hl:low=0
            · subst hl
              have a1:¬ P*2<2*(0+P):=by omega
              have a2:P*2=2*(0+P):=by omega
              rw [decide_eq_false a1,decide_eq_true a2]
              cases more <;> simp
            · have a1:P*2<2*(low+P):=by omega
              rw [decide_eq_true a1,decide_eq_true hl,Bool.or_true,if_pos rfl]
              simp
theorem tz_odd {q:Nat}:(decide (q≠0)&&decide (tzf q=0))=decide (q % 2=1):=by
  by_cases h:q % 2=1
  · rw [tzf_odd h,decide_eq_true h,decide_eq_true (show q≠0 by omega)];rfl
  · rw [decide_eq_false h]
    by_cases h0:q=0
    · subst h0;rfl
    · have:tzf q≠0:=by rw [tzf,dif_neg (by omega)];omega
      rw [decide_eq_false this,Bool.and_false]
theorem sgn3_nat (q:Nat):sgn3 (q:Int) 0=if q=0 then 0 else 1:=by
  unfold sgn3
  split <;> split <;> (try split) <;> omega
set_option maxRecDepth 100000 in
set_option maxHeartbeats 16000000 in
theorem refCut_any (neg nb:Bool) (ao:Option Addr) (k ca:Nat) (N n:Nat) (more:Bool) (mode:Int) (w:World) (h:Bg w nb ao k ca (N:Int)) (hbl:blen N≤900000) (hn:n≤1048576) (hT:Table w) :
    Calls Tryz.prog 186 #[.bool neg,.agg #[.bool nb,.slice ao k ca],.int .i64 (n:Int),.bool more,.int .i64 mode] w fun e w'=>∃ nr ro j cr,e=.returned (.agg #[.bool nr,.slice ro j cr])∧Bn w' nr ro j cr ((cutV neg N n more mode:Nat):Int)∧Ext w w':=by
  have HTT:=Lib.hid (fun W (hE:Ext w W)=>hT.below hE)
  have HG:=Lib.hid (fun W (hE:Ext w W)=>h.below hE)
  have hqc:((N:Int) / 2^n)=((N / 2^n:Nat):Int):=by rw [Int.natCast_ediv,Int.natCast_pow];rfl
  have HQ0:=Lib.hid hqc
  have hqb:blen (N / 2^n)≤900000:=Nat.le_trans (blen_le_of_lt (Nat.lt_of_le_of_lt (Nat.div_le_self _ _) (blen_lt N))) hbl
  have CDN:=Lib.hid (fun (m:Nat) (hm:m≤1048576) W (hE:Ext w W)=>refDown_any nb ao k ca (N:Int) m W (h.below hE) (by omega) hm)
  have CLO:=Lib.hid (fun (m:Nat) (hm:m≤1048576) (b:Bool) (hb:decide (N % 2^m≠0)=b) W (hE:Ext w W)=>refLost_any nb ao k ca (N:Int) m b (by rw [Int.natAbs_natCast];exact hb) W (h.below hE) hm)
  have HQB:=Lib.hid hqb
  clear h hT hqc hqb
  go_enter Tryz.func186,Tryz.ntmps186
  go_upto_region 1 with fail
  obtain ⟨W,hW,hB,bx,rx,hz⟩:=boxes1 w nb ao k ca
  rw [←hW]
  clear hW
  generalize hBe:w.heap.size=B at *
  have HBe:=Lib.hid hBe
  have HEX:=Lib.hid (show ∀ wx,Below B w wx→Ext w wx from fun wx h=>by rw [←hBe] at h;exact h)
  clear hBe
  have k0:=bx.c0
  have k1:=bx.c1
  have C:=Lib.hid (CDN.out n hn W (HEX.out _ hB))
  go_wp2_with fail
  refine C.out.mono ?_
  rintro e w1 ⟨qn,qo,qk,qc,rfl,hq,hw1⟩
  rw [HQ0.out] at hq
  have bx:=bx.below hw1
  have rx:=rx.below hw1
  obtain ⟨hB1,hB1'⟩:=bnext hB (by omega) hw1
  have hz1:=hw1.size
  clear k0 k1 C hw1
  go_upto_region 2 with fail
  obtain ⟨V,hV,hVB,dq,hvz⟩:=box_new w1 qn qo qk qc
  rw [←hV]
  clear hV
  have bx:=bx.below hVB
  have rx:=rx.below hVB
  have hq:=hq.below hVB
  obtain ⟨hB2,hB2'⟩:=bnext hB1 hB1' hVB
  have hDB:B+2≤w1.heap.size:=by omega
  clear hVB hvz hB1 hB1' hz1
  generalize w1.heap.size=D at *
  have k0:=bx.c0
  have k1:=bx.c1
  obtain ⟨lost,hlost⟩:∃ b,decide (N % 2^n≠0)=b:=⟨_,rfl⟩
  have C:=Lib.hid (CLO.out n hn lost hlost V (HEX.out _ hB2))
  have HLO:=Lib.hid hlost
  clear hlost
  go_wp2_with fail
  refine C.out.mono ?_
  rintro e w2 ⟨rfl,hw2⟩
  have bx:=bx.below hw2
  have rx:=rx.below hw2
  have dq:=dq.below hw2
  have hq:=hq.below hw2
  obtain ⟨hB2,hB2'⟩:=bnext hB2 hB2' hw2
  clear k0 k1 C hw2 hB hz
  go_upto_region 3 with fail
  go_cut [27] from 22 (fun bv wx=>bv=.bool (!lost&&!more)∧wx=w2)
  case first =>
    cases lost <;> cases more <;> (go_wp2;go_meet;exact ⟨rfl,rfl⟩)
  case rest =>
    obtain ⟨rfl,hwc⟩:=hcut
    subst hwc
    cases hlm:(!lost&&!more) with
    | true =>
      obtain ⟨rfl,rfl⟩:lost=false∧more=false:=by cases lost <;> cases more <;> simp at hlm <;> exact ⟨rfl,rfl⟩
      have HNO:=Lib.hid (cut_none neg (N:=N) (n:=n) mode (by simpa using HLO.out))
      clear hlm
      have q0:=rx.c0
      have q1:=rx.c1
      have f0:=rx.f 0
      have f1:=rx.f 1
      have j0:=dq.c0
      have j1:=dq.c1
      have z3:=rx.stored qn qo qk qc
      have z0:=z3.c0
      have z1:=z3.c1
      have HF:=Lib.hid (Bn.only_bx' hq rx (only_set2 _ _ (.bool qn) (.slice qo qk qc)))
      have HL:=Lib.hid (hB2.trans ((only_set2 wc (B+1) (.bool qn) (.slice qo qk qc)).below (B:=B) (by omega)))
      have HRS:=Lib.hid (show cutV neg N n false mode=N / 2^n from by exact HNO.out)
      clear z3
      go_wp2
      refine bodyPost_ret (v:=.agg #[.bool qn,.slice qo qk qc]) (by simp [results,Tryz.results186,go_sem,z0,z1]) rfl ⟨_,_,_,_,rfl,?_,?_⟩
      · rw [HRS.out];exact HF.out
      · show Below _ _ _;rw [HBe.out];exact HL.out
    | false =>
      have HCS:=Lib.hid (cut_some neg (N:=N) (n:=n) more mode (by
        cases lost with
        | true=>exact Or.inr (by simpa using HLO.out)
        | false=>cases more with
          | true=>exact Or.inl rfl
          | false=>simp at hlm))
      clear hlm
      obtain ⟨w3,hw3⟩:∃ V,V=wc:=⟨wc,rfl⟩
      subst hw3
      by_cases hn0:n=0
      · have HH:=Lib.hid (show halfV N n more = -1 by unfold halfV;rw [if_pos hn0])
        have hng:¬ ((n:Int) > 0):=by omega
        clear hn0
        go_upto_region 12 with fail
        clear hng
        generalize decide (0<n)=dz
        obtain ⟨odd,hodd⟩:∃ b,decide (N / 2^n % 2=1)=b:=⟨_,rfl⟩
        have HOD:=Lib.hid hodd
        have gq:=bn_bg_of hq (by rw [Int.natAbs_natCast];have:=HQB.out;omega)
        obtain ⟨q',hq'⟩:∃ q',N / 2^n=q':=⟨_,rfl⟩
        rw [hq'] at gq
        have hodd':decide (q' % 2=1)=odd:=by rw [←hq'];exact hodd
        have HQQ:=Lib.hid hq'
        have HEW:=Lib.hid (HEX.out _ hB2)
        clear hodd hq'
        go_cut [15] from 50 (fun ov wx=>ov=.bool odd∧Ext w3 wx)
        case first =>
          have j0:=dq.c0
          have j1:=dq.c1
          have HO2:=Lib.hid hodd'
          clear hodd'
          go_wp2_with fail
          refine (refSign_any _ _ _ _ _ _ gq).mono ?_
          rintro e wa ⟨rfl,hwa⟩
          have ea:Ext w3 wa:=hwa
          rw [sgn3_nat]
          by_cases q0:q'=0
          · rw [if_pos q0]
            have hof:odd=false:=by rw [←HO2.out,q0];rfl
            have HOF:=Lib.hid hof
            clear hof q0 j0 j1
            go_wp2
            go_meet
            exact ⟨by rw [HOF.out],ea⟩
          · rw [if_neg q0]
            have gqa:=gq.below hwa
            have dqa:=dq.below hwa
            clear j0 j1
            have j0:=dqa.c0
            have j1:=dqa.c1
            have htz:=@tz_odd q'
            rw [decide_eq_true q0,Bool.true_and,HO2.out] at htz
            have HTZ:=Lib.hid htz
            clear htz q0
            go_wp2_with fail
            refine (refTz_any _ _ _ _ _ _ gqa (HTT.out _ (Ext.trans HEW.out ea))).mono ?_
            rintro e wb ⟨rfl,hwb⟩
            rw [Int.natAbs_natCast]
            have eb:Ext w3 wb:=Ext.trans ea hwb
            by_cases t0:tzf q'=0
            · have hof:odd=true:=by rw [←HTZ.out,decide_eq_true t0]
              have HOF:=Lib.hid hof
              have ht0:((tzf q':Nat):Int)=0:=by omega
              rw [ht0]
              clear hof t0 ht0 j0 j1
              go_wp2
              go_meet
              exact ⟨by rw [HOF.out],eb⟩
            · have hof:odd=false:=by rw [←HTZ.out,decide_eq_false t0]
              have HOF:=Lib.hid hof
              have ht0:(((tzf q':Nat):Int) == 0)=false:=by simp;omega
              clear hof t0 j0 j1
              go_wp2
              go_meet
              exact ⟨by rw [HOF.out],eb⟩
        case rest =>
          obtain ⟨rfl,hEo⟩:=hcut
          have bx:=bx.below hEo
          have rx:=rx.below hEo
          have dq:=dq.below hEo
          have hq:=hq.below hEo
          obtain ⟨hB2,hB2'⟩:=bnext hB2 hB2' hEo
          clear gq hEo hodd'
          obtain ⟨w3',hwx'⟩:∃ V,V=wc:=⟨wc,rfl⟩
          subst hwx'
          go_wp2_with fail
          refine (refUp_any neg (-1) odd mode _).mono ?_
          rintro e w' ⟨rfl,rfl⟩
          cases hu:upB neg (-1) odd mode with
          | false =>
            have q0:=rx.c0
            have q1:=rx.c1
            have f0:=rx.f 0
            have f1:=rx.f 1
            have j0:=dq.c0
            have j1:=dq.c1
            have z3:=rx.stored qn qo qk qc
            have z0:=z3.c0
            have z1:=z3.c1
            have HF:=Lib.hid (Bn.only_bx' hq rx (only_set2 _ _ (.bool qn) (.slice qo qk qc)))
            have HL:=Lib.hid (hB2.trans ((only_set2 w3' (B+1) (.bool qn) (.slice qo qk qc)).below (B:=B) (by omega)))
            have HRS:=Lib.hid (show cutV neg N n more mode=N / 2^n from by rw [HCS.out,HH.out,HOD.out,hu];rfl)
            clear z3
            go_wp2
            refine bodyPost_ret (v:=.agg #[.bool qn,.slice qo qk qc]) (by simp [results,Tryz.results186,go_sem,z0,z1]) rfl ⟨_,_,_,_,rfl,?_,?_⟩
            · rw [HRS.out];exact HF.out
            · show Below _ _ _;rw [HBe.out];exact HL.out
          | true =>
            have HU:=Lib.hid hu
            clear hu
            have gq:=bn_bg_of hq (by rw [Int.natAbs_natCast];have:=HQB.out;omega)
            have hb1:blen (1:Int).natAbs≤1000000:=by rw [show blen (1:Int).natAbs=1 by decide];decide
            have HONE:Hid (∀ (w':World) (nr:Bool) (ro:Option Addr) (k rc:Nat),Bn w' nr ro k rc 1→Bg w' nr ro k rc 1):=Lib.hid (fun w' nr ro k rc h=>bn_bg_of h hb1)
            clear hb1
            have k0:=dq.c0
            have k1:=dq.c1
            go_upto_region 14 with fail
            go_cut [] from 63 (fun wx=>∃ sn so sk sc',Box wx D sn so sk sc'∧Bn wx sn so sk sc' (((N / 2^n+1:Nat):Int))∧Box wx (B+1) false none 0 0∧Below B w wx)
            case first =>
              go_region_with (first
                | (go_at_call 149;refine (refFromInt_any 1 _ (by omega) (by omega)).mono ?_;rintro e w10 ⟨on,oo,ok,oc,rfl,ho,hw10⟩;have ex1:Ext w3' w10:=Ext.trans (by first | exact (Below.refl _ _).drew | exact Ext.refl _) hw10;have c2:=dq.below ex1;have k0:=c2.c0;have k1:=c2.c1)
                | (go_at_call 135;refine (refAdd_any _ _ _ _ _ _ _ _ _ _ _ (by exact gq.below ex1) (by exact HONE.out _ _ _ _ _ ho)).mono ?_;rintro e w11 ⟨sn,so,sk,sc',rfl,hs,hw11⟩;have ex2:Ext w3' w11:=ex1.trans hw11;clear k0 k1;have c2:=dq.below ex2;have q0:=c2.c0;have q1:=c2.c1;have f0:=c2.f 0;have f1:=c2.f 1))
              all_goals
                go_wp2
                go_meet
              all_goals
                have o1:=only_set2 w11 D (.bool sn) (.slice so sk sc')
                have hBw:=(bnext hB2 hB2' ex2).1.trans (o1.below (B:=B) (by omega))
                rw [show ((N / 2^n:Nat):Int)+1=((N / 2^n+1:Nat):Int) by omega] at hs
                exact ⟨sn,so,sk,sc',c2.stored sn so sk sc',hs.only_bx' c2 o1,(rx.below ex2).only o1 (by omega),hBw⟩
            case rest =>
              obtain ⟨sn,so,sk,sc,ds,hs,rx,hB2⟩:=hcut
              have q0:=rx.c0
              have q1:=rx.c1
              have f0:=rx.f 0
              have f1:=rx.f 1
              have j0:=ds.c0
              have j1:=ds.c1
              have z3:=rx.stored sn so sk sc
              have z0:=z3.c0
              have z1:=z3.c1
              have HF:=Lib.hid (Bn.only_bx' hs rx (only_set2 _ _ (.bool sn) (.slice so sk sc)))
              have HL:=Lib.hid (hB2.trans ((only_set2 wc (B+1) (.bool sn) (.slice so sk sc)).below (B:=B) (by omega)))
              have HRS:=Lib.hid (show cutV neg N n more mode=N / 2^n+1 from by rw [HCS.out,HH.out,HOD.out,HU.out];rfl)
              clear z3
              go_wp2
              refine bodyPost_ret (v:=.agg #[.bool sn,.slice so sk sc]) (by simp [results,Tryz.results186,go_sem,z0,z1]) rfl ⟨_,_,_,_,rfl,?_,?_⟩
              · rw [HRS.out];exact HF.out
              · show Below _ _ _;rw [HBe.out];exact HL.out
      · have hng:((n:Int) > 0):=by omega
        have hn1:(((n - 1:Nat)):Int)=(n:Int) - 1:=by omega
        have C:=CDN.out (n - 1) (by omega) w3 (HEX.out _ hB2)
        rw [hn1,show ((N:Int) / 2^(n - 1))=((N / 2^(n - 1):Nat):Int) by rw [Int.natCast_ediv,Int.natCast_pow];rfl] at C
        have C:=Lib.hid C
        have CL1:=Lib.hid (fun b hb W hE=>by have:=CLO.out (n - 1) (by omega) b hb W hE;rw [hn1] at this;exact this)
        have HBB:=Lib.hid (show blen (N / 2^(n - 1))≤900000 from Nat.le_trans (blen_le_of_lt (Nat.lt_of_le_of_lt (Nat.div_le_self _ _) (blen_lt N))) hbl)
        have HHV:=Lib.hid (show halfV N n more=if N / 2^(n - 1) % 2=0 then -1 else if more||decide (N % 2^(n - 1)≠0) then 1 else 0 by unfold halfV;rw [if_neg hn0])
        have k0:=bx.c0
        have k1:=bx.c1
        go_wp2_with fail
        refine C.out.mono ?_
        rintro e w4 ⟨bn,bo,bk,bc,rfl,hbit,hw4⟩
        have bx:=bx.below hw4
        have rx:=rx.below hw4
        have dq:=dq.below hw4
        have hq:=hq.below hw4
        obtain ⟨hB2,hB2'⟩:=bnext hB2 hB2' hw4
        clear k0 k1 C hw4 hn0 hn1
        go_upto_region 8 with fail
        obtain ⟨V5,hV,hVB,eb,hvz⟩:=box_new w4 bn bo bk bc
        rw [←hV]
        clear hV
        have bx:=bx.below hVB
        have rx:=rx.below hVB
        have dq:=dq.below hVB
        have hq:=hq.below hVB
        have hbit:=hbit.below hVB
        obtain ⟨hB5,hB5'⟩:=bnext hB2 hB2' hVB
        clear hB2 hB2'
        have hB2:=hB5
        have hB2':=hB5'
        clear hB5 hB5'
        clear hVB hvz hng
        generalize w4.heap.size=E at *
        obtain ⟨b',hb'⟩:∃ b',N / 2^(n - 1)=b':=⟨_,rfl⟩
        rw [hb'] at hbit HBB HHV
        clear hb'
        have gb:=bn_bg_of hbit (by rw [Int.natAbs_natCast];have:=HBB.out;omega)
        obtain ⟨bodd,hbodd⟩:∃ b,decide (b' % 2=1)=b:=⟨_,rfl⟩
        have HEW:=Lib.hid (HEX.out _ hB2)
        go_cut [42] from 35 (fun ov wx=>ov=.bool bodd∧Ext V5 wx)
        case first =>
          have j0:=eb.c0
          have j1:=eb.c1
          have htz:=@tz_odd b'
          rw [hbodd] at htz
          have HTZ:=Lib.hid htz
          clear htz hbodd
          go_wp2_with fail
          refine (refTz_any _ _ _ _ _ _ gb (HTT.out _ HEW.out)).mono ?_
          rintro e wa ⟨rfl,hwa⟩
          rw [Int.natAbs_natCast]
          have ea:Ext V5 wa:=hwa
          by_cases t0:tzf b'=0
          · have ht0:((tzf b':Nat):Int)=0:=by omega
            rw [ht0]
            have gba:=gb.below hwa
            have eba:=eb.below hwa
            clear j0 j1
            have j0:=eba.c0
            have j1:=eba.c1
            have hof:bodd=decide (b'≠0):=by rw [←HTZ.out,decide_eq_true t0,Bool.and_true]
            have HOF:=Lib.hid hof
            clear hof t0 ht0
            go_wp2_with fail
            refine (refSign_any _ _ _ _ _ _ gba).mono ?_
            rintro e wb ⟨rfl,hwb⟩
            rw [sgn3_nat]
            have ebx:Ext V5 wb:=Ext.trans ea hwb
            by_cases q0:b'=0
            · rw [if_pos q0]
              have HQ:=Lib.hid (show decide (b'≠0)=false by simp [q0])
              clear j0 j1 q0
              go_wp2
              go_meet
              exact ⟨by rw [HOF.out,HQ.out],ebx⟩
            · rw [if_neg q0]
              have HQ:=Lib.hid (show decide (b'≠0)=true by simp [q0])
              clear j0 j1 q0
              go_wp2
              go_meet
              exact ⟨by rw [HOF.out,HQ.out],ebx⟩
          · have hof:bodd=false:=by rw [←HTZ.out,decide_eq_false t0,Bool.and_false]
            have HOF:=Lib.hid hof
            have ht0:(((tzf b':Nat):Int) == 0)=false:=by simp;omega
            clear hof t0 j0 j1
            go_wp2
            go_meet
            exact ⟨by rw [HOF.out],ea⟩
        case rest =>
          obtain ⟨rfl,hEo⟩:=hcut
          have bx:=bx.below hEo
          have rx:=rx.below hEo
          have dq:=dq.below hEo
          have hq:=hq.below hEo
          obtain ⟨hB2,hB2'⟩:=bnext hB2 hB2' hEo
          clear gb hbit eb HEW hEo
          obtain ⟨w6,hw6⟩:∃ V,V=wc:=⟨wc,rfl⟩
          subst hw6
          cases bodd with
          | false =>
            have hz:b' % 2=0:=by have:=of_decide_eq_false hbodd;omega
            have HH:=Lib.hid (show halfV N n more = -1 by rw [HHV.out,if_pos hz])
            clear hz hbodd
            go_upto_region 12 with fail
            obtain ⟨odd,hodd⟩:∃ b,decide (N / 2^n % 2=1)=b:=⟨_,rfl⟩
            have HOD:=Lib.hid hodd
            have gq:=bn_bg_of hq (by rw [Int.natAbs_natCast];have:=HQB.out;omega)
            obtain ⟨q',hq'⟩:∃ q',N / 2^n=q':=⟨_,rfl⟩
            rw [hq'] at gq
            have hodd':decide (q' % 2=1)=odd:=by rw [←hq'];exact hodd
            have HQQ:=Lib.hid hq'
            have HEW:=Lib.hid (HEX.out _ hB2)
            clear hodd hq'
            go_cut [15] from 50 (fun ov wx=>ov=.bool odd∧Ext w6 wx)
            case first =>
              have j0:=dq.c0
              have j1:=dq.c1
              have HO2:=Lib.hid hodd'
              clear hodd'
              go_wp2_with fail
              refine (refSign_any _ _ _ _ _ _ gq).mono ?_
              rintro e wa ⟨rfl,hwa⟩
              have ea:Ext w6 wa:=hwa
              rw [sgn3_nat]
              by_cases q0:q'=0
              · rw [if_pos q0]
                have hof:odd=false:=by rw [←HO2.out,q0];rfl
                have HOF:=Lib.hid hof
                clear hof q0 j0 j1
                go_wp2
                go_meet
                exact ⟨by rw [HOF.out],ea⟩
              · rw [if_neg q0]
                have gqa:=gq.below hwa
                have dqa:=dq.below hwa
                clear j0 j1
                have j0:=dqa.c0
                have j1:=dqa.c1
                have htz:=@tz_odd q'
                rw [decide_eq_true q0,Bool.true_and,HO2.out] at htz
                have HTZ:=Lib.hid htz
                clear htz q0
                go_wp2_with fail
                refine (refTz_any _ _ _ _ _ _ gqa (HTT.out _ (Ext.trans HEW.out ea))).mono ?_
                rintro e wb ⟨rfl,hwb⟩
                rw [Int.natAbs_natCast]
                have eb:Ext w6 wb:=Ext.trans ea hwb
                by_cases t0:tzf q'=0
                · have hof:odd=true:=by rw [←HTZ.out,decide_eq_true t0]
                  have HOF:=Lib.hid hof
                  have ht0:((tzf q':Nat):Int)=0:=by omega
                  rw [ht0]
                  clear hof t0 ht0 j0 j1
                  go_wp2
                  go_meet
                  exact ⟨by rw [HOF.out],eb⟩
                · have hof:odd=false:=by rw [←HTZ.out,decide_eq_false t0]
                  have HOF:=Lib.hid hof
                  have ht0:(((tzf q':Nat):Int) == 0)=false:=by simp;omega
                  clear hof t0 j0 j1
                  go_wp2
                  go_meet
                  exact ⟨by rw [HOF.out],eb⟩
            case rest =>
              obtain ⟨rfl,hEo⟩:=hcut
              have bx:=bx.below hEo
              have rx:=rx.below hEo
              have dq:=dq.below hEo
              have hq:=hq.below hEo
              obtain ⟨hB2,hB2'⟩:=bnext hB2 hB2' hEo
              clear gq hEo hodd'
              obtain ⟨w6',hwx'⟩:∃ V,V=wc:=⟨wc,rfl⟩
              subst hwx'
              go_wp2_with fail
              refine (refUp_any neg (-1) odd mode _).mono ?_
              rintro e w' ⟨rfl,rfl⟩
              cases hu:upB neg (-1) odd mode with
              | false =>
                have q0:=rx.c0
                have q1:=rx.c1
                have f0:=rx.f 0
                have f1:=rx.f 1
                have j0:=dq.c0
                have j1:=dq.c1
                have z3:=rx.stored qn qo qk qc
                have z0:=z3.c0
                have z1:=z3.c1
                have HF:=Lib.hid (Bn.only_bx' hq rx (only_set2 _ _ (.bool qn) (.slice qo qk qc)))
                have HL:=Lib.hid (hB2.trans ((only_set2 w6' (B+1) (.bool qn) (.slice qo qk qc)).below (B:=B) (by omega)))
                have HRS:=Lib.hid (show cutV neg N n more mode=N / 2^n from by rw [HCS.out,HH.out,HOD.out,hu];rfl)
                clear z3
                go_wp2
                refine bodyPost_ret (v:=.agg #[.bool qn,.slice qo qk qc]) (by simp [results,Tryz.results186,go_sem,z0,z1]) rfl ⟨_,_,_,_,rfl,?_,?_⟩
                · rw [HRS.out];exact HF.out
                · show Below _ _ _;rw [HBe.out];exact HL.out
              | true =>
                have HU:=Lib.hid hu
                clear hu
                have gq:=bn_bg_of hq (by rw [Int.natAbs_natCast];have:=HQB.out;omega)
                have hb1:blen (1:Int).natAbs≤1000000:=by rw [show blen (1:Int).natAbs=1 by decide];decide
                have HONE:Hid (∀ (w':World) (nr:Bool) (ro:Option Addr) (k rc:Nat),Bn w' nr ro k rc 1→Bg w' nr ro k rc 1):=Lib.hid (fun w' nr ro k rc h=>bn_bg_of h hb1)
                clear hb1
                have k0:=dq.c0
                have k1:=dq.c1
                go_upto_region 14 with fail
                go_cut [] from 63 (fun wx=>∃ sn so sk sc',Box wx D sn so sk sc'∧Bn wx sn so sk sc' (((N / 2^n+1:Nat):Int))∧Box wx (B+1) false none 0 0∧Below B w wx)
                case first =>
                  go_region_with (first
                    | (go_at_call 149;refine (refFromInt_any 1 _ (by omega) (by omega)).mono ?_;rintro e w10 ⟨on,oo,ok,oc,rfl,ho,hw10⟩;have ex1:Ext w6' w10:=Ext.trans (by first | exact (Below.refl _ _).drew | exact Ext.refl _) hw10;have c2:=dq.below ex1;have k0:=c2.c0;have k1:=c2.c1)
                    | (go_at_call 135;refine (refAdd_any _ _ _ _ _ _ _ _ _ _ _ (by exact gq.below ex1) (by exact HONE.out _ _ _ _ _ ho)).mono ?_;rintro e w11 ⟨sn,so,sk,sc',rfl,hs,hw11⟩;have ex2:Ext w6' w11:=ex1.trans hw11;clear k0 k1;have c2:=dq.below ex2;have q0:=c2.c0;have q1:=c2.c1;have f0:=c2.f 0;have f1:=c2.f 1))
                  all_goals
                    go_wp2
                    go_meet
                  all_goals
                    have o1:=only_set2 w11 D (.bool sn) (.slice so sk sc')
                    have hBw:=(bnext hB2 hB2' ex2).1.trans (o1.below (B:=B) (by omega))
                    rw [show ((N / 2^n:Nat):Int)+1=((N / 2^n+1:Nat):Int) by omega] at hs
                    exact ⟨sn,so,sk,sc',c2.stored sn so sk sc',hs.only_bx' c2 o1,(rx.below ex2).only o1 (by omega),hBw⟩
                case rest =>
                  obtain ⟨sn,so,sk,sc,ds,hs,rx,hB2⟩:=hcut
                  have q0:=rx.c0
                  have q1:=rx.c1
                  have f0:=rx.f 0
                  have f1:=rx.f 1
                  have j0:=ds.c0
                  have j1:=ds.c1
                  have z3:=rx.stored sn so sk sc
                  have z0:=z3.c0
                  have z1:=z3.c1
                  have HF:=Lib.hid (Bn.only_bx' hs rx (only_set2 _ _ (.bool sn) (.slice so sk sc)))
                  have HL:=Lib.hid (hB2.trans ((only_set2 wc (B+1) (.bool sn) (.slice so sk sc)).below (B:=B) (by omega)))
                  have HRS:=Lib.hid (show cutV neg N n more mode=N / 2^n+1 from by rw [HCS.out,HH.out,HOD.out,HU.out];rfl)
                  clear z3
                  go_wp2
                  refine bodyPost_ret (v:=.agg #[.bool sn,.slice so sk sc]) (by simp [results,Tryz.results186,go_sem,z0,z1]) rfl ⟨_,_,_,_,rfl,?_,?_⟩
                  · rw [HRS.out];exact HF.out
                  · show Below _ _ _;rw [HBe.out];exact HL.out
          | true =>
            have hz:¬ b' % 2=0:=by have:=of_decide_eq_true hbodd;omega
            have HHW:=Lib.hid (show halfV N n more=if more||decide (N % 2^(n - 1)≠0) then 1 else 0 by rw [HHV.out,if_neg hz])
            clear hz hbodd
            cases more with
            | true =>
              have HH:=Lib.hid (show halfV N n true=1 by rw [HHW.out];rfl)
              go_upto_region 12 with fail
              obtain ⟨odd,hodd⟩:∃ b,decide (N / 2^n % 2=1)=b:=⟨_,rfl⟩
              have HOD:=Lib.hid hodd
              have gq:=bn_bg_of hq (by rw [Int.natAbs_natCast];have:=HQB.out;omega)
              obtain ⟨q',hq'⟩:∃ q',N / 2^n=q':=⟨_,rfl⟩
              rw [hq'] at gq
              have hodd':decide (q' % 2=1)=odd:=by rw [←hq'];exact hodd
              have HQQ:=Lib.hid hq'
              have HEW:=Lib.hid (HEX.out _ hB2)
              clear hodd hq'
              go_cut [15] from 50 (fun ov wx=>ov=.bool odd∧Ext w6 wx)
              case first =>
                have j0:=dq.c0
                have j1:=dq.c1
                have HO2:=Lib.hid hodd'
                clear hodd'
                go_wp2_with fail
                refine (refSign_any _ _ _ _ _ _ gq).mono ?_
                rintro e wa ⟨rfl,hwa⟩
                have ea:Ext w6 wa:=hwa
                rw [sgn3_nat]
                by_cases q0:q'=0
                · rw [if_pos q0]
                  have hof:odd=false:=by rw [←HO2.out,q0];rfl
                  have HOF:=Lib.hid hof
                  clear hof q0 j0 j1
                  go_wp2
                  go_meet
                  exact ⟨by rw [HOF.out],ea⟩
                · rw [if_neg q0]
                  have gqa:=gq.below hwa
                  have dqa:=dq.below hwa
                  clear j0 j1
                  have j0:=dqa.c0
                  have j1:=dqa.c1
                  have htz:=@tz_odd q'
                  rw [decide_eq_true q0,Bool.true_and,HO2.out] at htz
                  have HTZ:=Lib.hid htz
                  clear htz q0
                  go_wp2_with fail
                  refine (refTz_any _ _ _ _ _ _ gqa (HTT.out _ (Ext.trans HEW.out ea))).mono ?_
                  rintro e wb ⟨rfl,hwb⟩
                  rw [Int.natAbs_natCast]
                  have eb:Ext w6 wb:=Ext.trans ea hwb
                  by_cases t0:tzf q'=0
                  · have hof:odd=true:=by rw [←HTZ.out,decide_eq_true t0]
                    have HOF:=Lib.hid hof
                    have ht0:((tzf q':Nat):Int)=0:=by omega
                    rw [ht0]
                    clear hof t0 ht0 j0 j1
                    go_wp2
                    go_meet
                    exact ⟨by rw [HOF.out],eb⟩
                  · have hof:odd=false:=by rw [←HTZ.out,decide_eq_false t0]
                    have HOF:=Lib.hid hof
                    have ht0:(((tzf q':Nat):Int) == 0)=false:=by simp;omega
                    clear hof t0 j0 j1
                    go_wp2
                    go_meet
                    exact ⟨by rw [HOF.out],eb⟩
              case rest =>
                obtain ⟨rfl,hEo⟩:=hcut
                have bx:=bx.below hEo
                have rx:=rx.below hEo
                have dq:=dq.below hEo
                have hq:=hq.below hEo
                obtain ⟨hB2,hB2'⟩:=bnext hB2 hB2' hEo
                clear gq hEo hodd'
                obtain ⟨w6',hwx'⟩:∃ V,V=wc:=⟨wc,rfl⟩
                subst hwx'
                go_wp2_with fail
                refine (refUp_any neg (1) odd mode _).mono ?_
                rintro e w' ⟨rfl,rfl⟩
                cases hu:upB neg (1) odd mode with
                | false =>
                  have q0:=rx.c0
                  have q1:=rx.c1
                  have f0:=rx.f 0
                  have f1:=rx.f 1
                  have j0:=dq.c0
                  have j1:=dq.c1
                  have z3:=rx.stored qn qo qk qc
                  have z0:=z3.c0
                  have z1:=z3.c1
                  have HF:=Lib.hid (Bn.only_bx' hq rx (only_set2 _ _ (.bool qn) (.slice qo qk qc)))
                  have HL:=Lib.hid (hB2.trans ((only_set2 w6' (B+1) (.bool qn) (.slice qo qk qc)).below (B:=B) (by omega)))
                  have HRS:=Lib.hid (show cutV neg N n true mode=N / 2^n from by rw [HCS.out,HH.out,HOD.out,hu];rfl)
                  clear z3
                  go_wp2
                  refine bodyPost_ret (v:=.agg #[.bool qn,.slice qo qk qc]) (by simp [results,Tryz.results186,go_sem,z0,z1]) rfl ⟨_,_,_,_,rfl,?_,?_⟩
                  · rw [HRS.out];exact HF.out
                  · show Below _ _ _;rw [HBe.out];exact HL.out
                | true =>
                  have HU:=Lib.hid hu
                  clear hu
                  have gq:=bn_bg_of hq (by rw [Int.natAbs_natCast];have:=HQB.out;omega)
                  have hb1:blen (1:Int).natAbs≤1000000:=by rw [show blen (1:Int).natAbs=1 by decide];decide
                  have HONE:Hid (∀ (w':World) (nr:Bool) (ro:Option Addr) (k rc:Nat),Bn w' nr ro k rc 1→Bg w' nr ro k rc 1):=Lib.hid (fun w' nr ro k rc h=>bn_bg_of h hb1)
                  clear hb1
                  have k0:=dq.c0
                  have k1:=dq.c1
                  go_upto_region 14 with fail
                  go_cut [] from 63 (fun wx=>∃ sn so sk sc',Box wx D sn so sk sc'∧Bn wx sn so sk sc' (((N / 2^n+1:Nat):Int))∧Box wx (B+1) false none 0 0∧Below B w wx)
                  case first =>
                    go_region_with (first
                      | (go_at_call 149;refine (refFromInt_any 1 _ (by omega) (by omega)).mono ?_;rintro e w10 ⟨on,oo,ok,oc,rfl,ho,hw10⟩;have ex1:Ext w6' w10:=Ext.trans (by first | exact (Below.refl _ _).drew | exact Ext.refl _) hw10;have c2:=dq.below ex1;have k0:=c2.c0;have k1:=c2.c1)
                      | (go_at_call 135;refine (refAdd_any _ _ _ _ _ _ _ _ _ _ _ (by exact gq.below ex1) (by exact HONE.out _ _ _ _ _ ho)).mono ?_;rintro e w11 ⟨sn,so,sk,sc',rfl,hs,hw11⟩;have ex2:Ext w6' w11:=ex1.trans hw11;clear k0 k1;have c2:=dq.below ex2;have q0:=c2.c0;have q1:=c2.c1;have f0:=c2.f 0;have f1:=c2.f 1))
                    all_goals
                      go_wp2
                      go_meet
                    all_goals
                      have o1:=only_set2 w11 D (.bool sn) (.slice so sk sc')
                      have hBw:=(bnext hB2 hB2' ex2).1.trans (o1.below (B:=B) (by omega))
                      rw [show ((N / 2^n:Nat):Int)+1=((N / 2^n+1:Nat):Int) by omega] at hs
                      exact ⟨sn,so,sk,sc',c2.stored sn so sk sc',hs.only_bx' c2 o1,(rx.below ex2).only o1 (by omega),hBw⟩
                  case rest =>
                    obtain ⟨sn,so,sk,sc,ds,hs,rx,hB2⟩:=hcut
                    have q0:=rx.c0
                    have q1:=rx.c1
                    have f0:=rx.f 0
                    have f1:=rx.f 1
                    have j0:=ds.c0
                    have j1:=ds.c1
                    have z3:=rx.stored sn so sk sc
                    have z0:=z3.c0
                    have z1:=z3.c1
                    have HF:=Lib.hid (Bn.only_bx' hs rx (only_set2 _ _ (.bool sn) (.slice so sk sc)))
                    have HL:=Lib.hid (hB2.trans ((only_set2 wc (B+1) (.bool sn) (.slice so sk sc)).below (B:=B) (by omega)))
                    have HRS:=Lib.hid (show cutV neg N n true mode=N / 2^n+1 from by rw [HCS.out,HH.out,HOD.out,HU.out];rfl)
                    clear z3
                    go_wp2
                    refine bodyPost_ret (v:=.agg #[.bool sn,.slice so sk sc]) (by simp [results,Tryz.results186,go_sem,z0,z1]) rfl ⟨_,_,_,_,rfl,?_,?_⟩
                    · rw [HRS.out];exact HF.out
                    · show Below _ _ _;rw [HBe.out];exact HL.out
            | false =>
              obtain ⟨l2,hl2⟩:∃ b,decide (N % 2^(n - 1)≠0)=b:=⟨_,rfl⟩
              have HH0:=Lib.hid (show halfV N n false=if l2 then 1 else 0 by rw [HHW.out,hl2];rfl)
              have C:=Lib.hid (CL1.out l2 hl2 w6 (HEX.out _ hB2))
              clear hl2
              have k0:=bx.c0
              have k1:=bx.c1
              go_wp2_with fail
              refine C.out.mono ?_
              rintro e w7 ⟨rfl,hw7⟩
              have bx:=bx.below hw7
              have rx:=rx.below hw7
              have dq:=dq.below hw7
              have hq:=hq.below hw7
              obtain ⟨hB2,hB2'⟩:=bnext hB2 hB2' hw7
              clear k0 k1 C hw7
              cases l2 with
              | true =>
                have HH:=Lib.hid (show halfV N n false=1 by rw [HH0.out];rfl)
                go_upto_region 12 with fail
                obtain ⟨odd,hodd⟩:∃ b,decide (N / 2^n % 2=1)=b:=⟨_,rfl⟩
                have HOD:=Lib.hid hodd
                have gq:=bn_bg_of hq (by rw [Int.natAbs_natCast];have:=HQB.out;omega)
                obtain ⟨q',hq'⟩:∃ q',N / 2^n=q':=⟨_,rfl⟩
                rw [hq'] at gq
                have hodd':decide (q' % 2=1)=odd:=by rw [←hq'];exact hodd
                have HQQ:=Lib.hid hq'
                have HEW:=Lib.hid (HEX.out _ hB2)
                clear hodd hq'
                go_cut [15] from 50 (fun ov wx=>ov=.bool odd∧Ext w7 wx)
                case first =>
                  have j0:=dq.c0
                  have j1:=dq.c1
                  have HO2:=Lib.hid hodd'
                  clear hodd'
                  go_wp2_with fail
                  refine (refSign_any _ _ _ _ _ _ gq).mono ?_
                  rintro e wa ⟨rfl,hwa⟩
                  have ea:Ext w7 wa:=hwa
                  rw [sgn3_nat]
                  by_cases q0:q'=0
                  · rw [if_pos q0]
                    have hof:odd=false:=by rw [←HO2.out,q0];rfl
                    have HOF:=Lib.hid hof
                    clear hof q0 j0 j1
                    go_wp2
                    go_meet
                    exact ⟨by rw [HOF.out],ea⟩
                  · rw [if_neg q0]
                    have gqa:=gq.below hwa
                    have dqa:=dq.below hwa
                    clear j0 j1
                    have j0:=dqa.c0
                    have j1:=dqa.c1
                    have htz:=@tz_odd q'
                    rw [decide_eq_true q0,Bool.true_and,HO2.out] at htz
                    have HTZ:=Lib.hid htz
                    clear htz q0
                    go_wp2_with fail
                    refine (refTz_any _ _ _ _ _ _ gqa (HTT.out _ (Ext.trans HEW.out ea))).mono ?_
                    rintro e wb ⟨rfl,hwb⟩
                    rw [Int.natAbs_natCast]
                    have eb:Ext w7 wb:=Ext.trans ea hwb
                    by_cases t0:tzf q'=0
                    · have hof:odd=true:=by rw [←HTZ.out,decide_eq_true t0]
                      have HOF:=Lib.hid hof
                      have ht0:((tzf q':Nat):Int)=0:=by omega
                      rw [ht0]
                      clear hof t0 ht0 j0 j1
                      go_wp2
                      go_meet
                      exact ⟨by rw [HOF.out],eb⟩
                    · have hof:odd=false:=by rw [←HTZ.out,decide_eq_false t0]
                      have HOF:=Lib.hid hof
                      have ht0:(((tzf q':Nat):Int) == 0)=false:=by simp;omega
                      clear hof t0 j0 j1
                      go_wp2
                      go_meet
                      exact ⟨by rw [HOF.out],eb⟩
                case rest =>
                  obtain ⟨rfl,hEo⟩:=hcut
                  have bx:=bx.below hEo
                  have rx:=rx.below hEo
                  have dq:=dq.below hEo
                  have hq:=hq.below hEo
                  obtain ⟨hB2,hB2'⟩:=bnext hB2 hB2' hEo
                  clear gq hEo hodd'
                  obtain ⟨w7',hwx'⟩:∃ V,V=wc:=⟨wc,rfl⟩
                  subst hwx'
                  go_wp2_with fail
                  refine (refUp_any neg (1) odd mode _).mono ?_
                  rintro e w' ⟨rfl,rfl⟩
                  cases hu:upB neg (1) odd mode with
                  | false =>
                    have q0:=rx.c0
                    have q1:=rx.c1
                    have f0:=rx.f 0
                    have f1:=rx.f 1
                    have j0:=dq.c0
                    have j1:=dq.c1
                    have z3:=rx.stored qn qo qk qc
                    have z0:=z3.c0
                    have z1:=z3.c1
                    have HF:=Lib.hid (Bn.only_bx' hq rx (only_set2 _ _ (.bool qn) (.slice qo qk qc)))
                    have HL:=Lib.hid (hB2.trans ((only_set2 w7' (B+1) (.bool qn) (.slice qo qk qc)).below (B:=B) (by omega)))
                    have HRS:=Lib.hid (show cutV neg N n false mode=N / 2^n from by rw [HCS.out,HH.out,HOD.out,hu];rfl)
                    clear z3
                    go_wp2
                    refine bodyPost_ret (v:=.agg #[.bool qn,.slice qo qk qc]) (by simp [results,Tryz.results186,go_sem,z0,z1]) rfl ⟨_,_,_,_,rfl,?_,?_⟩
                    · rw [HRS.out];exact HF.out
                    · show Below _ _ _;rw [HBe.out];exact HL.out
                  | true =>
                    have HU:=Lib.hid hu
                    clear hu
                    have gq:=bn_bg_of hq (by rw [Int.natAbs_natCast];have:=HQB.out;omega)
                    have hb1:blen (1:Int).natAbs≤1000000:=by rw [show blen (1:Int).natAbs=1 by decide];decide
                    have HONE:Hid (∀ (w':World) (nr:Bool) (ro:Option Addr) (k rc:Nat),Bn w' nr ro k rc 1→Bg w' nr ro k rc 1):=Lib.hid (fun w' nr ro k rc h=>bn_bg_of h hb1)
                    clear hb1
                    have k0:=dq.c0
                    have k1:=dq.c1
                    go_upto_region 14 with fail
                    go_cut [] from 63 (fun wx=>∃ sn so sk sc',Box wx D sn so sk sc'∧Bn wx sn so sk sc' (((N / 2^n+1:Nat):Int))∧Box wx (B+1) false none 0 0∧Below B w wx)
                    case first =>
                      go_region_with (first
                        | (go_at_call 149;refine (refFromInt_any 1 _ (by omega) (by omega)).mono ?_;rintro e w10 ⟨on,oo,ok,oc,rfl,ho,hw10⟩;have ex1:Ext w7' w10:=Ext.trans (by first | exact (Below.refl _ _).drew | exact Ext.refl _) hw10;have c2:=dq.below ex1;have k0:=c2.c0;have k1:=c2.c1)
                        | (go_at_call 135;refine (refAdd_any _ _ _ _ _ _ _ _ _ _ _ (by exact gq.below ex1) (by exact HONE.out _ _ _ _ _ ho)).mono ?_;rintro e w11 ⟨sn,so,sk,sc',rfl,hs,hw11⟩;have ex2:Ext w7' w11:=ex1.trans hw11;clear k0 k1;have c2:=dq.below ex2;have q0:=c2.c0;have q1:=c2.c1;have f0:=c2.f 0;have f1:=c2.f 1))
                      all_goals
                        go_wp2
                        go_meet
                      all_goals
                        have o1:=only_set2 w11 D (.bool sn) (.slice so sk sc')
                        have hBw:=(bnext hB2 hB2' ex2).1.trans (o1.below (B:=B) (by omega))
                        rw [show ((N / 2^n:Nat):Int)+1=((N / 2^n+1:Nat):Int) by omega] at hs
                        exact ⟨sn,so,sk,sc',c2.stored sn so sk sc',hs.only_bx' c2 o1,(rx.below ex2).only o1 (by omega),hBw⟩
                    case rest =>
                      obtain ⟨sn,so,sk,sc,ds,hs,rx,hB2⟩:=hcut
                      have q0:=rx.c0
                      have q1:=rx.c1
                      have f0:=rx.f 0
                      have f1:=rx.f 1
                      have j0:=ds.c0
                      have j1:=ds.c1
                      have z3:=rx.stored sn so sk sc
                      have z0:=z3.c0
                      have z1:=z3.c1
                      have HF:=Lib.hid (Bn.only_bx' hs rx (only_set2 _ _ (.bool sn) (.slice so sk sc)))
                      have HL:=Lib.hid (hB2.trans ((only_set2 wc (B+1) (.bool sn) (.slice so sk sc)).below (B:=B) (by omega)))
                      have HRS:=Lib.hid (show cutV neg N n false mode=N / 2^n+1 from by rw [HCS.out,HH.out,HOD.out,HU.out];rfl)
                      clear z3
                      go_wp2
                      refine bodyPost_ret (v:=.agg #[.bool sn,.slice so sk sc]) (by simp [results,Tryz.results186,go_sem,z0,z1]) rfl ⟨_,_,_,_,rfl,?_,?_⟩
                      · rw [HRS.out];exact HF.out
                      · show Below _ _ _;rw [HBe.out];exact HL.out
              | false =>
                have HH:=Lib.hid (show halfV N n false=0 by rw [HH0.out];rfl)
                go_upto_region 12 with fail
                obtain ⟨odd,hodd⟩:∃ b,decide (N / 2^n % 2=1)=b:=⟨_,rfl⟩
                have HOD:=Lib.hid hodd
                have gq:=bn_bg_of hq (by rw [Int.natAbs_natCast];have:=HQB.out;omega)
                obtain ⟨q',hq'⟩:∃ q',N / 2^n=q':=⟨_,rfl⟩
                rw [hq'] at gq
                have hodd':decide (q' % 2=1)=odd:=by rw [←hq'];exact hodd
                have HQQ:=Lib.hid hq'
                have HEW:=Lib.hid (HEX.out _ hB2)
                clear hodd hq'
                go_cut [15] from 50 (fun ov wx=>ov=.bool odd∧Ext w7 wx)
                case first =>
                  have j0:=dq.c0
                  have j1:=dq.c1
                  have HO2:=Lib.hid hodd'
                  clear hodd'
                  go_wp2_with fail
                  refine (refSign_any _ _ _ _ _ _ gq).mono ?_
                  rintro e wa ⟨rfl,hwa⟩
                  have ea:Ext w7 wa:=hwa
                  rw [sgn3_nat]
                  by_cases q0:q'=0
                  · rw [if_pos q0]
                    have hof:odd=false:=by rw [←HO2.out,q0];rfl
                    have HOF:=Lib.hid hof
                    clear hof q0 j0 j1
                    go_wp2
                    go_meet
                    exact ⟨by rw [HOF.out],ea⟩
                  · rw [if_neg q0]
                    have gqa:=gq.below hwa
                    have dqa:=dq.below hwa
                    clear j0 j1
                    have j0:=dqa.c0
                    have j1:=dqa.c1
                    have htz:=@tz_odd q'
                    rw [decide_eq_true q0,Bool.true_and,HO2.out] at htz
                    have HTZ:=Lib.hid htz
                    clear htz q0
                    go_wp2_with fail
                    refine (refTz_any _ _ _ _ _ _ gqa (HTT.out _ (Ext.trans HEW.out ea))).mono ?_
                    rintro e wb ⟨rfl,hwb⟩
                    rw [Int.natAbs_natCast]
                    have eb:Ext w7 wb:=Ext.trans ea hwb
                    by_cases t0:tzf q'=0
                    · have hof:odd=true:=by rw [←HTZ.out,decide_eq_true t0]
                      have HOF:=Lib.hid hof
                      have ht0:((tzf q':Nat):Int)=0:=by omega
                      rw [ht0]
                      clear hof t0 ht0 j0 j1
                      go_wp2
                      go_meet
                      exact ⟨by rw [HOF.out],eb⟩
                    · have hof:odd=false:=by rw [←HTZ.out,decide_eq_false t0]
                      have HOF:=Lib.hid hof
                      have ht0:(((tzf q':Nat):Int) == 0)=false:=by simp;omega
                      clear hof t0 j0 j1
                      go_wp2
                      go_meet
                      exact ⟨by rw [HOF.out],eb⟩
                case rest =>
                  obtain ⟨rfl,hEo⟩:=hcut
                  have bx:=bx.below hEo
                  have rx:=rx.below hEo
                  have dq:=dq.below hEo
                  have hq:=hq.below hEo
                  obtain ⟨hB2,hB2'⟩:=bnext hB2 hB2' hEo
                  clear gq hEo hodd'
                  obtain ⟨w7',hwx'⟩:∃ V,V=wc:=⟨wc,rfl⟩
                  subst hwx'
                  go_wp2_with fail
                  refine (refUp_any neg (0) odd mode _).mono ?_
                  rintro e w' ⟨rfl,rfl⟩
                  cases hu:upB neg (0) odd mode with
                  | false =>
                    have q0:=rx.c0
                    have q1:=rx.c1
                    have f0:=rx.f 0
                    have f1:=rx.f 1
                    have j0:=dq.c0
                    have j1:=dq.c1
                    have z3:=rx.stored qn qo qk qc
                    have z0:=z3.c0
                    have z1:=z3.c1
                    have HF:=Lib.hid (Bn.only_bx' hq rx (only_set2 _ _ (.bool qn) (.slice qo qk qc)))
                    have HL:=Lib.hid (hB2.trans ((only_set2 w7' (B+1) (.bool qn) (.slice qo qk qc)).below (B:=B) (by omega)))
                    have HRS:=Lib.hid (show cutV neg N n false mode=N / 2^n from by rw [HCS.out,HH.out,HOD.out,hu];rfl)
                    clear z3
                    go_wp2
                    refine bodyPost_ret (v:=.agg #[.bool qn,.slice qo qk qc]) (by simp [results,Tryz.results186,go_sem,z0,z1]) rfl ⟨_,_,_,_,rfl,?_,?_⟩
                    · rw [HRS.out];exact HF.out
                    · show Below _ _ _;rw [HBe.out];exact HL.out
                  | true =>
                    have HU:=Lib.hid hu
                    clear hu
                    have gq:=bn_bg_of hq (by rw [Int.natAbs_natCast];have:=HQB.out;omega)
                    have hb1:blen (1:Int).natAbs≤1000000:=by rw [show blen (1:Int).natAbs=1 by decide];decide
                    have HONE:Hid (∀ (w':World) (nr:Bool) (ro:Option Addr) (k rc:Nat),Bn w' nr ro k rc 1→Bg w' nr ro k rc 1):=Lib.hid (fun w' nr ro k rc h=>bn_bg_of h hb1)
                    clear hb1
                    have k0:=dq.c0
                    have k1:=dq.c1
                    go_upto_region 14 with fail
                    go_cut [] from 63 (fun wx=>∃ sn so sk sc',Box wx D sn so sk sc'∧Bn wx sn so sk sc' (((N / 2^n+1:Nat):Int))∧Box wx (B+1) false none 0 0∧Below B w wx)
                    case first =>
                      go_region_with (first
                        | (go_at_call 149;refine (refFromInt_any 1 _ (by omega) (by omega)).mono ?_;rintro e w10 ⟨on,oo,ok,oc,rfl,ho,hw10⟩;have ex1:Ext w7' w10:=Ext.trans (by first | exact (Below.refl _ _).drew | exact Ext.refl _) hw10;have c2:=dq.below ex1;have k0:=c2.c0;have k1:=c2.c1)
                        | (go_at_call 135;refine (refAdd_any _ _ _ _ _ _ _ _ _ _ _ (by exact gq.below ex1) (by exact HONE.out _ _ _ _ _ ho)).mono ?_;rintro e w11 ⟨sn,so,sk,sc',rfl,hs,hw11⟩;have ex2:Ext w7' w11:=ex1.trans hw11;clear k0 k1;have c2:=dq.below ex2;have q0:=c2.c0;have q1:=c2.c1;have f0:=c2.f 0;have f1:=c2.f 1))
                      all_goals
                        go_wp2
                        go_meet
                      all_goals
                        have o1:=only_set2 w11 D (.bool sn) (.slice so sk sc')
                        have hBw:=(bnext hB2 hB2' ex2).1.trans (o1.below (B:=B) (by omega))
                        rw [show ((N / 2^n:Nat):Int)+1=((N / 2^n+1:Nat):Int) by omega] at hs
                        exact ⟨sn,so,sk,sc',c2.stored sn so sk sc',hs.only_bx' c2 o1,(rx.below ex2).only o1 (by omega),hBw⟩
                    case rest =>
                      obtain ⟨sn,so,sk,sc,ds,hs,rx,hB2⟩:=hcut
                      have q0:=rx.c0
                      have q1:=rx.c1
                      have f0:=rx.f 0
                      have f1:=rx.f 1
                      have j0:=ds.c0
                      have j1:=ds.c1
                      have z3:=rx.stored sn so sk sc
                      have z0:=z3.c0
                      have z1:=z3.c1
                      have HF:=Lib.hid (Bn.only_bx' hs rx (only_set2 _ _ (.bool sn) (.slice so sk sc)))
                      have HL:=Lib.hid (hB2.trans ((only_set2 wc (B+1) (.bool sn) (.slice so sk sc)).below (B:=B) (by omega)))
                      have HRS:=Lib.hid (show cutV neg N n false mode=N / 2^n+1 from by rw [HCS.out,HH.out,HOD.out,HU.out];rfl)
                      clear z3
                      go_wp2
                      refine bodyPost_ret (v:=.agg #[.bool sn,.slice so sk sc]) (by simp [results,Tryz.results186,go_sem,z0,z1]) rfl ⟨_,_,_,_,rfl,?_,?_⟩
                      · rw [HRS.out];exact HF.out
                      · show Below _ _ _;rw [HBe.out];exact HL.out
end Go.Proofs.YtkomhemjodbkpaaGreatDoor
