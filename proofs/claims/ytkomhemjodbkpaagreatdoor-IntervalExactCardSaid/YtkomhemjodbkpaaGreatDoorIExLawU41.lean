import Derived.Test.YtkomhemjodbkpaaGreatDoorIExLawU24
import Derived.Test.YtkomhemjodbkpaaGreatDoorIExLawU37
import Derived.Test.YtkomhemjodbkpaaGreatDoorIExLawU40
import Derived.Test.YtkomhemjodbkpaaGreatDoorIExLawU13
import Derived.Test.YtkomhemjodbkpaaGreatDoorIExLawU19
import Derived.Test.YtkomhemjodbkpaaGreatDoorIExLawU17
import Derived.Test.YtkomhemjodbkpaaGreatDoorIExLawU25
import Derived.Test.YtkomhemjodbkpaaGreatDoorIExLawU23
import Derived.Test.YtkomhemjodbkpaaGreatDoorIExLawU31
namespace Go.Proofs.YtkomhemjodbkpaaGreatDoor
open Go Go.RowKit
set_option maxRecDepth 100000 in
set_option maxHeartbeats 4000000 in
theorem refRootF_any (u:Value) (d:Dy) (mode:Int) (w:World) (hu:Dl w u d) (hT:Table w) :
    Calls Tryz.prog 107 #[u,.int .i64 mode] w fun e w'=>e=.returned (.int .u64 ((rootV d mode:Nat):Int))∧Ext w w':=by
  obtain ⟨R,hR⟩:∃ R,rootV d mode=R:=⟨_,rfl⟩
  rw [hR]
  have HR:=Lib.hid hR
  clear hR
  have hu0:=hu
  obtain ⟨ub,un,uo,uk,uc,_,uf,rfl,-⟩:=hu0
  have HTw:=Lib.hid hT
  go_enter Tryz.func107,Tryz.ntmps107
  go_upto_region 1 with fail
  obtain ⟨W,hW,hB,hbx,hz⟩:=dbox_new w ub un uo uk uc uf
  rw [←hW]
  clear hW
  have hu:=hu.ext hB
  have HT:=Lib.hid (hT.below hB)
  generalize hBe:w.heap.size=B at *
  have HBe:=Lib.hid hBe;clear hBe hT
  have k0:=hbx.c0
  have k1:=hbx.c1
  have k2:=hbx.c2
  have k3:=hbx.c3
  go_wp2_with fail
  refine (refDNorm_any _ _ _ hu HT.out).mono ?_
  rintro e w1 ⟨r1,rfl,hr,hw1⟩
  have bx:=hbx.below hw1
  obtain ⟨hB1,hB1'⟩:=bnext hB (by omega) hw1
  have hz1:=hw1.size
  obtain ⟨xb,xn,xo,xk,xc,xe,rfl⟩:=hr.parts
  clear k0 k1 k2 k3 hbx hB hw1 hu HT
  have k0:=bx.c0
  have k1:=bx.c1
  have k2:=bx.c2
  have k3:=bx.c3
  have f0:=bx.f 0
  have f1:=bx.f 1
  have f2:=bx.f 2
  have f3:=bx.f 3
  go_upto_region 2 with fail
  have ho:=only_set4 w1 B (.bool xb) (.bool xn) (.slice xo xk xc) (.int .i64 xe)
  have hr:=hr.only_dbox bx ho
  have bx:=bx.stored xb xn xo xk xc xe
  have hB2:=hB1.trans (ho.below (B:=B) (Nat.le_refl _))
  have hz2:=ho.size
  have hz3:B+1≤((((w1.setCell ⟨B,0,none⟩ (.bool xb)).setCell ⟨B,1,none⟩ (.bool xn)).setCell ⟨B,2,none⟩ (.slice xo xk xc)).setCell ⟨B,3,none⟩ (.int .i64 xe)).heap.size:=by omega
  have hTf:=HTw.out.below (w':=(((w1.setCell ⟨B,0,none⟩ (.bool xb)).setCell ⟨B,1,none⟩ (.bool xn)).setCell ⟨B,2,none⟩ (.slice xo xk xc)).setCell ⟨B,3,none⟩ (.int .i64 xe)) (by rw [HBe.out];exact hB2)
  clear k0 k1 k2 k3 f0 f1 f2 f3 hB1 ho hz2
  generalize (((w1.setCell ⟨B,0,none⟩ (.bool xb)).setCell ⟨B,1,none⟩ (.bool xn)).setCell ⟨B,2,none⟩ (.slice xo xk xc)).setCell ⟨B,3,none⟩ (.int .i64 xe)=w2 at *
  have HT:=Lib.hid hTf;clear hTf
  have k0:=bx.c0
  have k1:=bx.c1
  have k2:=bx.c2
  have k3:=bx.c3
  cases d with
  | none =>
    obtain rfl:=dn_none hr
    obtain rfl:R=9221120237041090560:=HR.out.symm
    go_wp2
    go_ret
    refine ⟨rfl,?_⟩
    show Below _ _ _;rw [HBe.out];exact hB2
  | some q =>
    obtain ⟨m,f⟩:=q
    obtain ⟨rfl,rfl,hm⟩:=dn_some hr
    have hnx:=nd_blen hr.1
    simp only [dm,dx,Option.getD_some] at hnx
    obtain ⟨hnx,hx0,hx1⟩:=hnx
    have gm:=bn_bg_of hm (by omega)
    clear hm hr
    obtain ⟨sg,hsg⟩:∃ sg,sgn3 m 0=sg:=⟨_,rfl⟩
    have CS:=refSign_any _ _ _ _ _ w2 gm
    rw [hsg] at CS
    have CS:=Lib.hid CS
    have hsl:(decide (sg<0))=decide (m<0):=by
      rw [←hsg];unfold sgn3
      apply decide_eq_decide.2
      split
      · omega
      · split <;> omega
    by_cases h3:m<0
    · have hR:R=9221120237041090560:=by
        rw [←HR.out];unfold rootV;dsimp only
        rw [if_pos h3]
      subst hR
      have hs0:sg<0:=by rw [decide_eq_true h3] at hsl;exact of_decide_eq_true hsl
      clear hsl hsg
      go_wp2_with fail
      refine CS.out.mono ?_
      rintro e w3 ⟨rfl,hw3⟩
      obtain ⟨hB3,hB3'⟩:=bnext hB2 (by omega) hw3
      clear k0 k1 k2 k3 CS
      go_wp2
      go_ret
      refine ⟨rfl,?_⟩
      show Below _ _ _;rw [HBe.out];exact hB3
    · have hs0:¬ sg<0:=by rw [decide_eq_false h3] at hsl;exact of_decide_eq_false hsl
      clear hsl
      go_wp2_with fail
      refine CS.out.mono ?_
      rintro e w3 ⟨rfl,hw3⟩
      have hw3:Ext w2 w3:=hw3
      have bx:=bx.ext hw3
      have gm:=gm.below hw3
      have HT:=Lib.hid (HT.out.below hw3)
      obtain ⟨hB3,hB3'⟩:=bnext hB2 (by omega) hw3
      have hz4:=Below.size hw3
      clear k0 k1 k2 k3 CS hw3 hB2
      have k0:=bx.c0
      have k1:=bx.c1
      have k2:=bx.c2
      have k3:=bx.c3
      have CS:=refSign_any _ _ _ _ _ w3 gm
      rw [hsg] at CS
      have CS:=Lib.hid CS
      by_cases h4:m=0
      · subst h4
        obtain rfl:sg=0:=by rw [←hsg];rfl
        have hR:R=0:=by
          rw [←HR.out];unfold rootV;dsimp only
          rw [if_neg (by omega),if_pos rfl]
        subst hR
        clear hsg
        go_wp2_with fail
        refine CS.out.mono ?_
        rintro e w4 ⟨rfl,hw4⟩
        obtain ⟨hB4,hB4'⟩:=bnext hB3 (by omega) hw4
        clear k0 k1 k2 k3 CS
        go_wp2
        go_ret
        refine ⟨rfl,?_⟩
        show Below _ _ _;rw [HBe.out];exact hB4
      · have hs1:(sg == 0)=false:=by
          rw [←hsg];unfold sgn3
          split
          · rfl
          · split <;> first | rfl | omega
        obtain ⟨A,rfl⟩:=Int.eq_ofNat_of_zero_le (show 0≤m by omega)
        rw [Int.natAbs_natCast] at hnx
        have hA0:A≠0:=by omega
        have HAb:=Lib.hid (show blen A≤140000 by omega)
        have HDS:=Lib.hid (fun (k:Nat) (hk:2*((60:Nat):Int)+4 - (blen A:Int)≤(k:Nat)) (hev:(xe - (k:Int)) % 2=0)=>(rootV_any (mode:=mode) (e:=xe) (k:=k) hA0 hk hev).trans HR.out)
        have HBG:=Lib.hid (fun (k:Nat) (hk:2*((60:Nat):Int)+4 - (blen A:Int)≤(k:Nat))=>root_big (k:=k) hA0 hk)
        clear hsg h3 h4 HR hA0
        go_wp2_with fail
        refine CS.out.mono ?_
        rintro e w4 ⟨rfl,hw4⟩
        have hw4:Ext w3 w4:=hw4
        have bx:=bx.ext hw4
        have gm:=gm.below hw4
        have HT:=Lib.hid (HT.out.below hw4)
        obtain ⟨hB4,hB4'⟩:=bnext hB3 (by omega) hw4
        have hz5:=Below.size hw4
        clear k0 k1 k2 k3 CS hw4 hB3
        have k0:=bx.c0
        have k1:=bx.c1
        have k2:=bx.c2
        have k3:=bx.c3
        have CR:Calls Tryz.prog 148 #[.agg #[.bool xn,.slice xo xk xc],.int .i64 xe,.int .i64 60] w4 fun r w'=>∃ k qn qo qk qc,2*((60:Nat):Int)+4 - (blen A:Int)≤(k:Nat)∧(xe - (k:Int)) % 2=0∧k≤9001∧r=.returned (.tuple #[.agg #[.bool qn,.slice qo qk qc],.int .i64 ((xe - (k:Int)) / 2),.bool (decide (isq (A*2^k)*isq (A*2^k)≠A*2^k))])∧Bn w' qn qo qk qc ((isq (A*2^k):Nat):Int)∧Ext w4 w':=refRoot_any A _ _ _ _ 60 xe w4 gm HAb.out (by omega) (by omega)
        have CR:=Lib.hid CR
        go_wp2_with fail
        refine CR.out.mono ?_
        rintro r w5 ⟨k,qn,qo,qk,qc,hk,hev,hk9,rfl,hq,hw5⟩
        have HV:=HDS.out k hk hev
        have HBIG:=HBG.out k hk
        have hIb:blen (isq (A*2^k))≤900000:=by
          have h2:=blen_lt A
          have h3:A*2^k<2^(blen A+k):=by rw [Nat.pow_add];exact Nat.mul_lt_mul_of_pos_right h2 (Nat.pow_pos (by omega))
          have h4:isq (A*2^k)≤A*2^k:=by
            have h5:=(isq_spec (A*2^k)).1
            rcases Nat.eq_zero_or_pos (isq (A*2^k)) with h | h
            · omega
            · exact Nat.le_trans (Nat.le_mul_of_pos_left _ h) h5
          exact Nat.le_trans (blen_le_of_lt (Nat.lt_of_le_of_lt h4 h3)) (by have:=HAb.out;omega)
        clear hk hev
        obtain ⟨t,ht⟩:∃ t,decide (isq (A*2^k)*isq (A*2^k)≠A*2^k)=t:=⟨_,rfl⟩
        obtain ⟨Q,hQ⟩:∃ Q,isq (A*2^k)=Q:=⟨_,rfl⟩
        rw [ht] at HV
        rw [hQ] at HV hq hIb HBIG
        rw [ht]
        clear ht hQ
        have bx:=bx.ext hw5
        have HT:=Lib.hid (HT.out.below hw5)
        obtain ⟨hB5,hB5'⟩:=bnext hB4 (by omega) hw5
        have hz6:=Below.size hw5
        have HV:=Lib.hid HV
        have HIb:=Lib.hid hIb
        have HBIG:=Lib.hid HBIG
        obtain ⟨E,hE⟩:∃ E:Int,(xe - (k:Int)) / 2=E:=⟨_,rfl⟩
        have hEb : -1000000≤E∧E≤1000000:=by omega
        rw [hE] at HV
        rw [hE]
        clear k0 k1 k2 k3 CR hw5 hB4 hE hk9 hIb bx
        go_upto_region 7 with fail
        obtain ⟨U,hU,hu,hG,hzu⟩:=box_new w5 qn qo qk qc
        rw [←hU]
        clear hU
        have hq:=hq.below hu
        have HT:=Lib.hid (HT.out.below hu)
        obtain ⟨hB6,hB6'⟩:=bnext hB5 (by omega) hu
        have g0:=hG.c0
        have g1:=hG.c1
        have CR:=refRoundedT_any false qn qo qk qc Q E t mode U (bn_bg_of hq (by rw [Int.natAbs_natCast];have:=HIb.out;omega)) (big_ne HBIG.out) (big_place HBIG.out) HIb.out hEb.1 hEb.2 HT.out
        rw [HV.out] at CR
        have CR:=Lib.hid CR
        clear hu hq HBIG
        go_wp2_with fail
        with_reducible refine CR.out.mono ?_
        rintro r w7 ⟨rfl,hw7⟩
        have hB7:Below B w w7:=(bnext hB6 (by omega) hw7).1
        have HF:=Lib.hid hB7
        clear g0 g1 CR hB6
        go_wp2
        go_ret
        refine ⟨rfl,?_⟩
        show Below _ _ _;rw [HBe.out];exact HF.out
open Go.RowKit
set_option maxRecDepth 100000 in
theorem refSqrt_nan (f:Nat) (mode:Int) (hf:f<18446744073709551616) (nf:nanB f=true) (w:World) :
    Calls Tryz.prog 62 #[.int .u64 (f:Int),.int .i64 mode] w fun x w'=>x=.returned (.int .u64 ((9221120237041090560:Nat):Int))∧Ext w w':=by
  have NF:=Lib.hid (refNan_any f hf true (nf))
  clear nf hf
  go_enter Tryz.func62,Tryz.ntmps62
  go_wp2_with (first | (go_at_call 85;(with_reducible refine (NF.out _).mono ?_);rintro e w' ⟨rfl,rfl⟩))
  go_ret
  exact ⟨rfl,Below.refl _ _⟩
set_option maxRecDepth 100000 in
theorem refSqrt_zero (f:Nat) (mode:Int) (hf:f<18446744073709551616) (nf:nanB f=false) (zf:zeroB f=true) (w:World) :
    Calls Tryz.prog 62 #[.int .u64 (f:Int),.int .i64 mode] w fun x w'=>x=.returned (.int .u64 ((f:Nat):Int))∧Ext w w':=by
  have NF:=Lib.hid (refNan_any f hf false (nf))
  have ZF:=Lib.hid (refZero_any f hf true ((kind_zero f).trans zf))
  clear nf zf hf
  go_enter Tryz.func62,Tryz.ntmps62
  go_wp2_with (first | (go_at_call 85;(with_reducible refine (NF.out _).mono ?_);rintro e w' ⟨rfl,rfl⟩) | (go_at_call 105;(with_reducible refine (ZF.out _).mono ?_);rintro e w' ⟨rfl,rfl⟩))
  go_ret
  exact ⟨rfl,Below.refl _ _⟩
set_option maxRecDepth 100000 in
theorem refSqrt_inf (f:Nat) (mode:Int) (hf:f<18446744073709551616) (nf:nanB f=false) (zf:zeroB f=false) (h:f=9218868437227405312) (w:World) :
    Calls Tryz.prog 62 #[.int .u64 (f:Int),.int .i64 mode] w fun x w'=>x=.returned (.int .u64 ((f:Nat):Int))∧Ext w w':=by
  have NF:=Lib.hid (refNan_any f hf false (nf))
  have ZF:=Lib.hid (refZero_any f hf false ((kind_zero f).trans zf))
  have hi:((f:Int) == 9218868437227405312)=true:=by rw [h];rfl
  clear nf zf hf h
  go_enter Tryz.func62,Tryz.ntmps62
  go_wp2_with (first | (go_at_call 85;(with_reducible refine (NF.out _).mono ?_);rintro e w' ⟨rfl,rfl⟩) | (go_at_call 105;(with_reducible refine (ZF.out _).mono ?_);rintro e w' ⟨rfl,rfl⟩))
  go_ret
  exact ⟨rfl,Below.refl _ _⟩
set_option maxRecDepth 100000 in
theorem refSqrt_neg (f:Nat) (mode:Int) (hf:f<18446744073709551616) (nf:nanB f=false) (zf:zeroB f=false) (h:f≠9218868437227405312) (hg:fneg f=true) (w:World) :
    Calls Tryz.prog 62 #[.int .u64 (f:Int),.int .i64 mode] w fun x w'=>x=.returned (.int .u64 ((9221120237041090560:Nat):Int))∧Ext w w':=by
  have NF:=Lib.hid (refNan_any f hf false (nf))
  have ZF:=Lib.hid (refZero_any f hf false ((kind_zero f).trans zf))
  have MA:=Lib.hid (refMinus_any f hf _ hg)
  have hi:((f:Int) == 9218868437227405312)=false:=by rw [beq_eq_false_iff_ne];omega
  clear nf zf hf h hg
  go_enter Tryz.func62,Tryz.ntmps62
  go_wp2_with (first | (go_at_call 85;(with_reducible refine (NF.out _).mono ?_);rintro e w' ⟨rfl,rfl⟩) | (go_at_call 105;(with_reducible refine (ZF.out _).mono ?_);rintro e w' ⟨rfl,rfl⟩) | (go_at_call 106;(with_reducible refine (MA.out _).mono ?_);rintro e w' ⟨rfl,rfl⟩))
  go_ret
  exact ⟨rfl,Below.refl _ _⟩
set_option maxRecDepth 100000 in
set_option maxHeartbeats 2000000 in
theorem refSqrt_fin (f:Nat) (mode:Int) (hf:f<18446744073709551616) (nf:nanB f=false) (zf:zeroB f=false) (h:f≠9218868437227405312) (hg:fneg f=false) (w:World) (hT:Table w) :
    Calls Tryz.prog 62 #[.int .u64 (f:Int),.int .i64 mode] w fun x w'=>x=.returned (.int .u64 ((rootV (fdy f) mode:Nat):Int))∧Ext w w':=by
  have NF:=Lib.hid (refNan_any f hf false (nf))
  have ZF:=Lib.hid (refZero_any f hf false ((kind_zero f).trans zf))
  have MA:=Lib.hid (refMinus_any f hf _ hg)
  have hi:((f:Int) == 9218868437227405312)=false:=by rw [beq_eq_false_iff_ne];omega
  have OA:=Lib.hid (fun W (hE:Ext w W)=>refOf_any f hf W (hT.below hE))
  have HTT:=Lib.hid (fun W (hE:Ext w W)=>hT.below hE)
  clear nf zf h hg hf hT
  generalize fdy f=d at *
  go_enter Tryz.func62,Tryz.ntmps62
  go_wp2_with (first | (go_at_call 85;(with_reducible refine (NF.out _).mono ?_);rintro e w' ⟨rfl,rfl⟩) | (go_at_call 105;(with_reducible refine (ZF.out _).mono ?_);rintro e w' ⟨rfl,rfl⟩) | (go_at_call 106;(with_reducible refine (MA.out _).mono ?_);rintro e w' ⟨rfl,rfl⟩))
  refine (OA.out _ (Below.refl _ _)).mono ?_
  rintro e w1 ⟨v,rfl,hv,hw1⟩
  go_wp2_with fail
  refine (refRootF_any _ _ mode w1 hv.dl (HTT.out _ hw1)).mono ?_
  rintro e w2 ⟨rfl,hw2⟩
  have H2:=Lib.hid (Ext.trans hw1 hw2)
  clear hv hw1 hw2
  go_wp2
  go_ret
  exact ⟨rfl,H2.out⟩
theorem refFSqrt_any (f:Nat) (mode:Int) (hf:f<18446744073709551616) (w:World) (hT:Table w) :
    Calls Tryz.prog 62 #[.int .u64 (f:Int),.int .i64 mode] w fun x w'=>x=.returned (.int .u64 ((fsqrtF f mode:Nat):Int))∧Ext w w':=by
  unfold fsqrtF
  cases hz:zeroB f with
  | true=>simp only [Bool.true_or,if_true];exact refSqrt_zero f mode hf (zero_not hz).1 hz w
  | false =>
    by_cases h:f=9218868437227405312
    · rw [decide_eq_true h];simp only [Bool.or_true,if_true];exact refSqrt_inf f mode hf (by rw [h];decide) hz h w
    · rw [decide_eq_false h]
      cases hn:nanB f with
      | true=>simp only [Bool.or_false,Bool.true_or,if_true,Bool.false_eq_true,if_false];exact refSqrt_nan f mode hf hn w
      | false =>
        cases hg:fneg f with
        | true=>simp only [Bool.or_false,Bool.or_true,if_true,Bool.false_eq_true,if_false];exact refSqrt_neg f mode hf hn hz h hg w
        | false=>simp only [Bool.or_false,Bool.false_eq_true,if_false];exact refSqrt_fin f mode hf hn hz h hg w hT
open Go.RowKit
set_option maxRecDepth 100000 in
set_option maxHeartbeats 2000000 in
theorem fsqrt_val {f:Nat} (hf:f<18446744073709551616) (hfin:finB f=true) (hz:zeroB f=false) (hn:fneg f=false) (mode:Int) (w:World) :
    Calls Tryz.prog 61 #[.int .u64 (f:Int),.int .i64 mode] w fun x w'=>x=.returned (.int .u64 ((rootV (fdy f) mode:Nat):Int))∧Ext w w':=by
  have CZ:=Lib.hid (fun w=>isZero_any f hf w)
  have CN:=Lib.hid (fun w=>isNaN_any f hf w)
  have CG:=Lib.hid (fun w=>isNegative_any f hf w)
  have CS:=Lib.hid (fun w=>fsplit_any f hf w)
  rw [hz] at CZ
  rw [(fin_not hfin).1] at CN
  rw [hn] at CG
  have hi:((f:Int) == 9218868437227405312)=false:=by
    rw [beq_eq_false_iff_ne]
    intro h
    have h2:f=9218868437227405312:=by omega
    rw [h2] at hfin
    revert hfin
    decide
  have hs0:sig f≠0:=fun h=>by have h1:=(sig_zero f).1 h;unfold zeroB at hz;rw [h1] at hz;simp at hz
  have hsl:=sig_lt f
  have hsh:=fsh_lt f
  have CR:=Lib.hid (fun w=>frootF_any (N:=sig f) (e:=-1074+(fsh f:Int)) hs0 hsl (by omega) (by omega) w)
  have CO:=Lib.hid (fun (r:Nat) (E:Int) (t:Bool) (h0:4611686018427387904≤r) (h1:r<9223372036854775808) (hE0 : -100000≤E) (hE1:E≤100000) w=>fround_lo (t:=t) h0 h1 hE0 hE1 mode w)
  have SI:=Lib.hid (fun (r s hi lo:Nat) (E:Int) (R:RootOf (sig f) (-1074+(fsh f:Int)) (sig f*2^s) hi lo r E s) (_:64≤s) (_:s≤127)=>frounded_root (mode:=mode) hfin hz hn R)
  clear hs0 hsl hn hz hfin hf
  generalize rootV (fdy f) mode=R0 at *
  go_enter Tryz.func61,Tryz.ntmps61
  go_wp2_with fail
  refine (CZ.out _).mono ?_
  rintro x w1 ⟨rfl,rfl⟩
  go_wp2_with fail
  refine (CN.out _).mono ?_
  rintro x w2 ⟨rfl,rfl⟩
  go_wp2_with fail
  refine (CG.out _).mono ?_
  rintro x w3 ⟨rfl,rfl⟩
  go_wp2_with fail
  refine (CS.out _).mono ?_
  rintro x w4 ⟨rfl,hE1⟩
  have E1:=Lib.hid hE1
  clear hE1
  go_wp2_with fail
  refine (CR.out _).mono ?_
  rintro x w5 ⟨r,E,s,hi,lo,rfl,RO,k0,k1,hE2⟩
  have SI1:=Lib.hid (SI.out r s hi lo E RO k0 k1)
  have hexp:=RO.exp
  have q0:=RO.r2
  have q1:=RO.r3
  have E2:=Lib.hid (Ext.trans E1.out hE2)
  have CO1:=Lib.hid (CO.out r E (!decide (r*r=sig f*2^s)) q0 q1 (by omega) (by omega))
  clear hE2 RO hexp k0 k1 q0 q1
  obtain ⟨t,ht⟩:∃ t,(!decide (r*r=sig f*2^s))=t:=⟨_,rfl⟩
  rw [ht] at CO1 SI1
  rw [SI1.out] at CO1
  go_wp2_with fail
  refine (CO1.out _).mono ?_
  rintro x w6 ⟨rfl,hE3⟩
  go_wp2
  go_ret
  exact ⟨rfl,Ext.trans E2.out hE3⟩
set_option maxRecDepth 100000 in
theorem fsqrt_zero {f:Nat} (hf:f<18446744073709551616) (hz:zeroB f=true) (mode:Int) (w:World) :
    Calls Tryz.prog 61 #[.int .u64 (f:Int),.int .i64 mode] w fun x w'=>x=.returned (.int .u64 ((f:Nat):Int))∧Ext w w':=by
  have CZ:=Lib.hid (fun w=>isZero_any f hf w)
  rw [hz] at CZ
  clear hz hf
  go_enter Tryz.func61,Tryz.ntmps61
  go_wp2_with (first | (go_at_call 97;(with_reducible refine (CZ.out _).mono ?_);rintro e w' ⟨rfl,rfl⟩))
  go_ret
  exact ⟨rfl,Below.refl _ _⟩
set_option maxRecDepth 100000 in
theorem fsqrt_inf {f:Nat} (hf:f<18446744073709551616) (hz:zeroB f=false) (h:f=9218868437227405312) (mode:Int) (w:World) :
    Calls Tryz.prog 61 #[.int .u64 (f:Int),.int .i64 mode] w fun x w'=>x=.returned (.int .u64 ((f:Nat):Int))∧Ext w w':=by
  have CZ:=Lib.hid (fun w=>isZero_any f hf w)
  rw [hz] at CZ
  have hi:((f:Int) == 9218868437227405312)=true:=by rw [h];rfl
  clear hz hf h
  go_enter Tryz.func61,Tryz.ntmps61
  go_wp2_with (first | (go_at_call 97;(with_reducible refine (CZ.out _).mono ?_);rintro e w' ⟨rfl,rfl⟩))
  go_ret
  exact ⟨rfl,Below.refl _ _⟩
set_option maxRecDepth 100000 in
theorem fsqrt_nan {f:Nat} (hf:f<18446744073709551616) (hz:zeroB f=false) (h:f≠9218868437227405312) (hn:nanB f=true) (mode:Int) (w:World) :
    Calls Tryz.prog 61 #[.int .u64 (f:Int),.int .i64 mode] w fun x w'=>x=.returned (.int .u64 ((9221120237041090560:Nat):Int))∧Ext w w':=by
  have CZ:=Lib.hid (fun w=>isZero_any f hf w)
  rw [hz] at CZ
  have CN:=Lib.hid (fun w=>isNaN_any f hf w)
  rw [hn] at CN
  have hi:((f:Int) == 9218868437227405312)=false:=by rw [beq_eq_false_iff_ne];omega
  clear hz hn hf h
  go_enter Tryz.func61,Tryz.ntmps61
  go_wp2_with (first | (go_at_call 97;(with_reducible refine (CZ.out _).mono ?_);rintro e w' ⟨rfl,rfl⟩) | (go_at_call 82;(with_reducible refine (CN.out _).mono ?_);rintro e w' ⟨rfl,rfl⟩))
  go_ret
  exact ⟨rfl,Below.refl _ _⟩
set_option maxRecDepth 100000 in
theorem fsqrt_neg {f:Nat} (hf:f<18446744073709551616) (hz:zeroB f=false) (h:f≠9218868437227405312) (hn:nanB f=false) (hg:fneg f=true) (mode:Int) (w:World) :
    Calls Tryz.prog 61 #[.int .u64 (f:Int),.int .i64 mode] w fun x w'=>x=.returned (.int .u64 ((9221120237041090560:Nat):Int))∧Ext w w':=by
  have CZ:=Lib.hid (fun w=>isZero_any f hf w)
  rw [hz] at CZ
  have CN:=Lib.hid (fun w=>isNaN_any f hf w)
  rw [hn] at CN
  have CG:=Lib.hid (fun w=>isNegative_any f hf w)
  rw [hg] at CG
  have hi:((f:Int) == 9218868437227405312)=false:=by rw [beq_eq_false_iff_ne];omega
  clear hz hn hg hf h
  go_enter Tryz.func61,Tryz.ntmps61
  go_wp2_with (first | (go_at_call 97;(with_reducible refine (CZ.out _).mono ?_);rintro e w' ⟨rfl,rfl⟩) | (go_at_call 82;(with_reducible refine (CN.out _).mono ?_);rintro e w' ⟨rfl,rfl⟩) | (go_at_call 103;(with_reducible refine (CG.out _).mono ?_);rintro e w' ⟨rfl,rfl⟩))
  go_ret
  exact ⟨rfl,Below.refl _ _⟩
theorem fsqrt_any (f:Nat) (mode:Int) (hf:f<18446744073709551616) (w:World) :
    Calls Tryz.prog 61 #[.int .u64 (f:Int),.int .i64 mode] w fun x w'=>x=.returned (.int .u64 ((fsqrtF f mode:Nat):Int))∧Ext w w':=by
  unfold fsqrtF
  cases hz:zeroB f with
  | true=>simp only [Bool.true_or,if_true];exact fsqrt_zero hf hz mode w
  | false =>
    by_cases h:f=9218868437227405312
    · rw [decide_eq_true h];simp only [Bool.or_true,if_true];exact fsqrt_inf hf hz h mode w
    · rw [decide_eq_false h]
      cases hn:nanB f with
      | true=>simp only [Bool.or_false,Bool.true_or,if_true,Bool.false_eq_true,if_false];exact fsqrt_nan hf hz h hn mode w
      | false =>
        cases hg:fneg f with
        | true=>simp only [Bool.or_false,Bool.or_true,if_true,Bool.false_eq_true,if_false];exact fsqrt_neg hf hz h hn hg mode w
        | false =>
          simp only [Bool.or_false,Bool.false_eq_true,if_false]
          refine fsqrt_val hf ?_ hz hg mode w
          have e:=f_parts hf
          rw [hg] at e
          have h1:¬ 9218868437227405312<fmag f:=of_decide_eq_false hn
          have e2:sgz false=0:=rfl
          exact decide_eq_true (by omega)
open Go.RowKit
theorem greatF_zero_lt {a:Nat} (ha:a<18446744073709551616):greatF [0,a]<18446744073709551616:=greatF_lt (two_lt (by omega) ha)
set_option maxRecDepth 100000 in
set_option maxHeartbeats 8000000 in
theorem isqrt_yes (a b:Nat) (h1:Good a b) (h0:0≤frank b) (w:World) :
    Calls Tryz.prog 21 #[.agg #[.int .u64 (a:Int),.int .u64 (b:Int)]] w fun e w'=>e=.returned (.agg #[.int .u64 ((rootLo a:Nat):Int),.int .u64 ((rootHi b:Nat):Int)])∧Ext w w':=by
  have ha:=h1.l1
  have hb:=h1.l2
  have C1:=Lib.hid (ivalid_at a b ha hb rfl rfl true h1.valid)
  have C2:=Lib.hid (isLess_at b 0 hb (by decide) rfl rfl false (by rw [less_rank h1.n2 (by decide)];exact decide_eq_false (by rw [show frank 0=0 by decide];omega)))
  have HL:=Lib.hid (two_lt (show 0<18446744073709551616 by omega) ha)
  have S1:=fsqrt_any (greatF [0,a]) 1 (greatF_zero_lt ha)
  have S2:=fsqrt_any b 2 hb
  have CB:=between_any (fsqrtF (greatF [0,a]) 1) (fsqrtF b 2)
  unfold rootLo rootHi
  obtain ⟨x,hx⟩:∃ x:Int,((plainF (fsqrtF (greatF [0,a]) 1):Nat):Int)=x:=⟨_,rfl⟩
  obtain ⟨y,hy⟩:∃ y:Int,((plainF (fsqrtF b 2):Nat):Int)=y:=⟨_,rfl⟩
  rw [hx,hy] at CB ⊢
  generalize fsqrtF (greatF [0,a]) 1=r1 at *
  generalize fsqrtF b 2=r2 at *
  have S1:=Lib.hid S1
  have S2:=Lib.hid S2
  have CB:=Lib.hid CB
  clear hx hy h1 h0 ha hb
  go_enter Tryz.func21,Tryz.ntmps21
  go_upto_region 1 with fail
  obtain ⟨W,hW,hB,hx,hbx,hsz⟩:=ibox_two w a b 0 0
  rw [←hW]
  clear hW
  generalize hBe:w.heap.size=B at *
  have HBe:=Lib.hid hBe
  have HB:Hid (Below B w W):=Lib.hid (by rw [←hBe];exact hB)
  clear hBe hB
  have hBs:B+2≤W.heap.size:=hsz
  clear hsz
  have c0:=hx.c0
  have c1:=hx.c1
  go_wp2_with fail
  refine (C1.out _).mono ?_
  rintro r w1 ⟨rfl,hE⟩
  have hx:=hx.below hE
  have hbx:=hbx.below hE
  have HB:=Lib.hid (HB.out.trans (Below.mono hE (by omega)))
  have hBs:B+2≤w1.heap.size:=by have:=Below.size hE;omega
  clear c0 c1 hE
  have c0:=hx.c0
  have c1:=hx.c1
  go_wp2_with fail
  refine (C2.out _).mono ?_
  rintro r V ⟨rfl,hE⟩
  have hx:=hx.below hE
  have hbx:=hbx.below hE
  have HB:=Lib.hid (HB.out.trans (Below.mono hE (by omega)))
  have hBs:B+2≤V.heap.size:=by have:=Below.size hE;omega
  clear c0 c1 hE
  have c0:=hx.c0
  have c1:=hx.c1
  go_wp2_with fail
  refine (greatest_any _ [0,a] 2 rfl (by omega) HL.out _ (by first | exact fbAd _ _ _ | exact fbA _ _ _)).mono ?_
  rintro r V2 ⟨rfl,hE⟩
  have hE:=Ext.trans (eA (Ext.refl V) _) hE
  have hx:=hx.below hE
  have hbx:=hbx.below hE
  have HB:=Lib.hid (HB.out.trans (Below.mono hE (by omega)))
  have hBs:B+2≤V2.heap.size:=by have:=Below.size hE;omega
  clear c0 c1 hE
  generalize greatF [0,a]=g at *
  have HC:=Lib.hid (show ∀ wx,Ext V2 wx→(wx.cell? ⟨B,0,none⟩=some (.int .u64 (a:Int))∧wx.cell? ⟨B,1,none⟩=some (.int .u64 (b:Int)))∧IBox wx (B+1) 0 0 from fun wx h=>⟨⟨(hx.below h).c0,(hx.below h).c1⟩,hbx.below h⟩)
  obtain ⟨c0,c1⟩:=(HC.out V2 (Ext.refl _)).1
  have c4:=hbx.c0
  have c5:=hbx.c1
  have c6:=hbx.f 0
  have c7:=hbx.f 1
  go_upto_region 4 with fail
  have st:Ext V2 V2.drew:=(Below.refl _ _).drew
  go_region_held3 (fun wx=>wx.cell? ⟨B,0,none⟩=some (.int .u64 (a:Int))∧wx.cell? ⟨B,1,none⟩=some (.int .u64 (b:Int)))
    (first | exact (HC.out _ (by assumption)).1 | (refine ⟨?_,?_⟩ <;> go_simp))
    (first
      | (go_at_call 61;(with_reducible refine (S1.out _).mono ?_);rintro r wa ⟨rfl,hEa⟩;have sta:Ext V2 wa:=Ext.trans (by assumption) hEa)
      | (go_at_call 61;(with_reducible refine (S2.out _).mono ?_);rintro r wb ⟨rfl,hEb⟩;have stb:Ext V2 wb:=Ext.trans (by assumption) hEb)
      | (go_at_call 39;refine (CB.out _).mono ?_;rintro r wd ⟨rfl,hEd⟩;have std:Ext V2 wd:=Ext.trans (by assumption) hEd;have bz:=(HC.out wd std).2;have z0:=bz.c0;have z1:=bz.c1;have z2:=bz.f 0;have z3:=bz.f 1;obtain ⟨e0,e1⟩:=(HC.out wd std).1))
  all_goals
    have hst:=bz.stored x y
    have y0:=hst.c0
    have y1:=hst.c1
    have HF:=Lib.hid ((HB.out.trans (Below.mono std (by omega))).trans ((only_iset2 wd (B+1) (.int .u64 x) (.int .u64 y)).below (by omega)))
    clear hst z0 z1 z2 z3
    go_wp2
    refine bodyPost_ret (v:=.agg #[.int .u64 x,.int .u64 y]) (by simp [results,Tryz.results21,go_sem,y0,y1]) rfl ⟨rfl,?_⟩
    show Below _ _ _
    rw [HBe.out]
    exact HF.out
open Go.RowKit
noncomputable def quoN (i:Int) (d:Dy) (j:Int) (e:Dy) (mode:Int):Nat:=if j≠0 then 0 else if i≠0 then (if sgN i d*sgN j e > 0 then 9218868437227405312 else 18442240474082181120) else plainF (quoV d e mode)
set_option maxRecDepth 100000 in
set_option maxHeartbeats 16000000 in
theorem refQuotient_any (u v:Value) (i j:Int) (d e:Dy) (mode:Int) (hi : -1≤i∧i≤1) (hj : -1≤j∧j≤1) (w:World) (hu:NumV w u i d) (hv:NumV w v j e) (hT:Table w) :
    Calls Tryz.prog 56 #[u,v,.int .i64 mode] w fun x w'=>x=.returned (.int .u64 ((quoN i d j e mode:Nat):Int))∧Ext w w':=by
  obtain ⟨Q,hQ⟩:∃ Q:Int,((quoN i d j e mode:Nat):Int)=Q:=⟨_,rfl⟩
  rw [hQ]
  unfold quoN at hQ
  obtain ⟨sa,hsa⟩:∃ s,sgN i d=s:=⟨_,rfl⟩
  obtain ⟨sb,hsb⟩:∃ s,sgN j e=s:=⟨_,rfl⟩
  have b1 : -1≤sa∧sa≤1:=by rw [←hsa];unfold sgN sgn3;split;exact hi;split <;> (try split) <;> omega
  have b2 : -1≤sb∧sb≤1:=by rw [←hsb];unfold sgN sgn3;split;exact hj;split <;> (try split) <;> omega
  rw [hsa,hsb] at hQ
  have SA:=Lib.hid (fun wx (h:Ext w wx)=>refSgN_any u i d sa hsa wx (hu.ext h) (hT.below h))
  have SB:=Lib.hid (fun wx (h:Ext w wx)=>refSgN_any v j e sb hsb wx (hv.ext h) (hT.below h))
  obtain ⟨s,hs⟩:∃ s,sa*sb=s:=⟨_,rfl⟩
  have hsB : -1≤s∧s≤1:=by
    rw [←hs]
    rcases (show sa = -1∨sa=0∨sa=1 by omega) with h | h | h <;> rw [h] <;> omega
  have hw:IntKind.i64.wrap (sa*sb)=s:=by rw [hs];exact IntWalk.i64_in _ ⟨by omega,by omega⟩
  rw [hs] at hQ
  have QV:=Lib.hid (fun u v w hu hv hT=>refQuoF_any u v d e mode w hu hv hT)
  obtain ⟨qv,hqv⟩:∃ q,quoV d e mode=q:=⟨_,rfl⟩
  rw [hqv] at hQ QV
  obtain ⟨ub,un,uo,uk,uc,uf,rfl,hu⟩:=hu
  obtain ⟨vb,vn,vo,vk,vc,vf,rfl,hv⟩:=hv
  have HT:=Lib.hid hT
  have HQ:=Lib.hid hQ
  clear hsa hsb b1 b2 hs hi hj hT hQ hqv
  go_enter Tryz.func56,Tryz.ntmps56
  go_upto_region 1 with fail
  obtain ⟨W,hW,hB,hx,hy⟩:=nbx_two w i ub un uo uk uc uf j vb vn vo vk vc vf
  rw [←hW]
  clear hW
  have HE:=Lib.hid hB
  have HT:=Lib.hid (HT.out.below hB)
  have hu:=hu.ext hB
  have hv:=hv.ext hB
  generalize w.heap.size=B at hx hy ⊢
  clear hB
  have HC:=Lib.hid (show ∀ wx,Ext W wx→(wx.cell? ⟨B,0,none⟩=some (.int .i64 i)∧wx.cell? ⟨B,1,none⟩=some (.bool ub)∧wx.cell? ⟨B,2,none⟩=some (.bool un)∧wx.cell? ⟨B,3,none⟩=some (.slice uo uk uc)∧wx.cell? ⟨B,4,none⟩=some (.int .i64 uf))∧(wx.cell? ⟨(B+1),0,none⟩=some (.int .i64 j)∧wx.cell? ⟨(B+1),1,none⟩=some (.bool vb)∧wx.cell? ⟨(B+1),2,none⟩=some (.bool vn)∧wx.cell? ⟨(B+1),3,none⟩=some (.slice vo vk vc)∧wx.cell? ⟨(B+1),4,none⟩=some (.int .i64 vf)) from fun wx h=>⟨⟨(hx.below h).c0,(hx.below h).c1,(hx.below h).c2,(hx.below h).c3,(hx.below h).c4⟩,(hy.below h).c0,(hy.below h).c1,(hy.below h).c2,(hy.below h).c3,(hy.below h).c4⟩)
  have HU:=Lib.hid (fun wx (h:Ext W wx)=>(hu.ext h).dl)
  have HV:=Lib.hid (fun wx (h:Ext W wx)=>(hv.ext h).dl)
  clear hx hy hu hv
  have st:Ext W W:=Ext.refl _
  obtain ⟨⟨x0,x1,x2,x3,x4⟩,y0,y1,y2,y3,y4⟩:=HC.out _ st
  have st:Ext W _:=st.drew
  go_region_held3 (fun wx=>(wx.cell? ⟨B,0,none⟩=some (.int .i64 i)∧wx.cell? ⟨B,1,none⟩=some (.bool ub)∧wx.cell? ⟨B,2,none⟩=some (.bool un)∧wx.cell? ⟨B,3,none⟩=some (.slice uo uk uc)∧wx.cell? ⟨B,4,none⟩=some (.int .i64 uf))∧(wx.cell? ⟨(B+1),0,none⟩=some (.int .i64 j)∧wx.cell? ⟨(B+1),1,none⟩=some (.bool vb)∧wx.cell? ⟨(B+1),2,none⟩=some (.bool vn)∧wx.cell? ⟨(B+1),3,none⟩=some (.slice vo vk vc)∧wx.cell? ⟨(B+1),4,none⟩=some (.int .i64 vf)))
    (first | exact HC.out _ (by with_reducible assumption))
    (first
      | (go_at_call 55;(with_reducible refine (SA.out _ (Ext.trans HE.out (by with_reducible assumption))).mono ?_);rintro r wn ⟨rfl,hE⟩;have st:Ext W wn:=Ext.trans (by with_reducible assumption) hE;clear hE)
      | (go_at_call 55;(with_reducible refine (SB.out _ (Ext.trans HE.out (by with_reducible assumption))).mono ?_);rintro r wn ⟨rfl,hE⟩;have st:Ext W wn:=Ext.trans (by with_reducible assumption) hE;clear hE))
  clear x0 x1 x2 x3 x4 y0 y1 y2 y3 y4
  obtain ⟨⟨x0,x1,x2,x3,x4⟩,y0,y1,y2,y3,y4⟩:=HC.out _ st
  by_cases hj:j=0
  · have bj:(j != 0)=false:=by simp [hj]
    by_cases hi:i=0
    · have bi:(i != 0)=false:=by simp [hi]
      have HQ2:=Lib.hid (show ((plainF qv:Nat):Int)=Q by rw [←HQ.out,if_neg (by simp [hj]),if_neg (by simp [hi])])
      clear HQ hi hj
      go_wp2_with fail
      refine (QV.out _ _ _ (HU.out _ st) (HV.out _ st) (HT.out.below st)).mono ?_
      rintro r w1 ⟨rfl,hE⟩
      have st:Ext W w1:=Ext.trans st hE
      clear hE x0 x1 x2 x3 x4 y0 y1 y2 y3 y4
      go_wp2_with fail
      refine (refPlus_any _ _).mono ?_
      rintro r w2 ⟨rfl,rfl⟩
      have HF:=Lib.hid (Ext.trans HE.out st)
      go_wp2
      go_ret
      exact ⟨by rw [←HQ2.out];rfl,HF.out⟩
    · have bi:(i != 0)=true:=by simp [hi]
      by_cases hp:s > 0
      · obtain rfl:(9218868437227405312:Int)=Q:=by rw [←HQ.out,if_neg (by simp [hj]),if_pos hi,if_pos hp];rfl
        clear HQ hi hj
        have HF:=Lib.hid (Ext.trans HE.out st)
        go_wp2
        go_ret
        exact ⟨rfl,HF.out⟩
      · obtain rfl:(18442240474082181120:Int)=Q:=by rw [←HQ.out,if_neg (by simp [hj]),if_pos hi,if_neg hp];rfl
        clear HQ hi hj
        have HF:=Lib.hid (Ext.trans HE.out st)
        go_wp2
        go_ret
        exact ⟨rfl,HF.out⟩
  · have bj:(j != 0)=true:=by simp [hj]
    obtain rfl:(0:Int)=Q:=by rw [←HQ.out,if_pos hj];rfl
    clear HQ hj
    by_cases hi:i=0
    · have bi:(i != 0)=false:=by simp [hi]
      clear hi
      have HF:=Lib.hid (Ext.trans HE.out st)
      go_wp2
      go_ret
      exact ⟨rfl,HF.out⟩
    · have bi:(i != 0)=true:=by simp [hi]
      clear hi
      have HF:=Lib.hid (Ext.trans HE.out st)
      go_wp2
      go_ret
      exact ⟨rfl,HF.out⟩
end Go.Proofs.YtkomhemjodbkpaaGreatDoor
