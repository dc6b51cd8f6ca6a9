import Derived.Test.YtkomhemjodbkpaaGreatDoorIExLawU22
import Derived.Test.YtkomhemjodbkpaaGreatDoorIExLawU15
import Derived.Test.YtkomhemjodbkpaaGreatDoorIExLawU4
import Derived.Test.YtkomhemjodbkpaaGreatDoorIExLawU5
import Derived.Test.YtkomhemjodbkpaaGreatDoorIExLawU13
import Derived.Test.YtkomhemjodbkpaaGreatDoorIExLawU10
import Derived.Test.YtkomhemjodbkpaaGreatDoorIExLawU17
import Derived.Deep.RegionHeld3
import Derived.Test.YtkomhemjodbkpaaGreatDoorIExLawU24
import Derived.Test.YtkomhemjodbkpaaGreatDoorIExLawU1
namespace Go.Proofs.YtkomhemjodbkpaaGreatDoor
open Go.RowKit
theorem and_one_i64 (e:Int):bits BinOp.and IntKind.i64 e 1=e % 2:=by
  have h1:(BitVec.ofInt 64 e).toNat=(e % 18446744073709551616).toNat:=by
    rw [BitVec.toNat_ofInt];rfl
  have h2:(BitVec.ofInt 64 (1:Int)).toNat=1:=by decide
  show IntKind.i64.wrap ((BitVec.ofInt 64 e &&& BitVec.ofInt 64 1).toNat:Int)=_
  rw [BitVec.toNat_and,h1,h2,Nat.and_one_is_mod,IntKind.wrap_i64]
  omega
theorem isqrt_ex (N:Nat):∃ s,s*s≤N∧N<(s+1)*(s+1):=by
  induction N with
  | zero=>exact ⟨0,by omega,by omega⟩
  | succ n ih =>
    obtain ⟨s,h1,h2⟩:=ih
    by_cases h:n+1<(s+1)*(s+1)
    · exact ⟨s,by omega,h⟩
    · refine ⟨s+1,by omega,?_⟩
      have e:(s+1+1)*(s+1+1)=(s+1)*(s+1)+2*(s+1)+1:=by rw [Nat.add_mul (s+1) 1,Nat.mul_add (s+1) (s+1) 1];omega
      omega
theorem isqrt_bounds {N s a b:Nat} (h1:s*s≤N) (h2:N<(s+1)*(s+1)) (ha:a*a≤N) (hb:N<b*b):a≤s∧s<b:=by
  constructor
  · rcases Nat.lt_or_ge s a with h | h
    · have:=Nat.mul_le_mul (show s+1≤a from h) (show s+1≤a from h)
      omega
    · exact h
  · rcases Nat.lt_or_ge s b with h | h
    · exact h
    · have:=Nat.mul_le_mul h h
      omega
structure RootOf (N:Nat) (e:Int) (M hi lo r:Nat) (E:Int) (s:Nat):Prop where
  val:M=N*2^s
  exp:2*E+s=e
  words:hi*18446744073709551616+lo=M
  hlo:lo<18446744073709551616
  hi0:1152921504606846976≤hi
  hi1:hi<4611686018427387904
  r0:r*r≤M
  r1:M<(r+1)*(r+1)
  r2:4611686018427387904≤r
  r3:r<9223372036854775808
theorem root_of {N k d:Nat} {e:Int} (hk:64≤k) (hd:d=2∨d=3) (h0:2^127≤N*2^k) (h1:N*2^k<2^128) (hpar:(e - k+d) % 2=0) {H L:Nat} (hw:H*18446744073709551616+L=N*2^k / 2^d) (hL:L<18446744073709551616) :
    ∃ r E,RootOf N e (N*2^(k - d)) H L r E (k - d)∧e - k+d=2*E∧N*2^k % 2^d=0:=by
  obtain ⟨s,hs⟩:∃ s,k=s+d:=⟨k - d,by rcases hd with rfl | rfl <;> omega⟩
  subst hs
  have hp:0<2^d:=Nat.pow_pos (by omega)
  have e1:N*2^(s+d)=N*2^s*2^d:=by rw [Nat.pow_add,Nat.mul_assoc]
  rw [e1,Nat.mul_div_cancel _ hp] at hw
  rw [e1] at h0 h1
  rw [e1,Nat.mul_mod_left,Nat.add_sub_cancel]
  have hM0:2^124≤N*2^s:=by
    rcases hd with rfl | rfl <;> omega
  have hM1:N*2^s<2^126:=by
    rcases hd with rfl | rfl <;> omega
  generalize hM:N*2^s=M at *
  obtain ⟨r,r1,r2⟩:=isqrt_ex M
  obtain ⟨b1,b2⟩:=isqrt_bounds (a:=4611686018427387904) (b:=9223372036854775808) r1 r2 (by omega) (by omega)
  obtain ⟨E,hE⟩:∃ E,e - ((s+d:Nat):Int)+d=2*E:=⟨(e - ((s+d:Nat):Int)+d) / 2,by omega⟩
  refine ⟨r,E,⟨hM.symm,by push_cast at hE;omega,hw,hL,by omega,by omega,r1,r2,b1,b2⟩,hE,rfl⟩
theorem div_at {hi lo r:Nat} (hl:lo<18446744073709551616) (h0:hi≠0) (h1:hi<4611686018427387904) (hr:4611686018427387904≤r) (hr2:r≤9223372036854775808) (w:World) :
    Calls Tryz.prog 140 #[.int .u64 (hi:Int),.int .u64 (lo:Int),.int .u64 (r:Int)] w fun e w'=>e=.returned (.tuple #[.int .u64 (((hi*18446744073709551616+lo) / r:Nat):Int),.int .u64 (((hi*18446744073709551616+lo) % r:Nat):Int)])∧w=w':=by
  by_cases h:r=9223372036854775808
  · exact div64_any hi lo r 0 (by omega) h0 hl (by rw [h];decide) (by rw [h];decide) (by omega) w
  · exact div64_any hi lo r 1 (by omega) h0 hl (show 2^62≤r from hr) (show r<2^63 by omega) (by omega) w
set_option maxRecDepth 100000 in
set_option maxHeartbeats 2000000 in
theorem wordRoot_any {hi lo s:Nat} (hl:lo<18446744073709551616) (h0:1152921504606846976≤hi) (h1:hi<4611686018427387904) (r1:s*s≤hi*18446744073709551616+lo) (r2:hi*18446744073709551616+lo<(s+1)*(s+1)) (b1:4611686018427387904≤s) (b2:s<9223372036854775808) (w:World) :
    Calls Tryz.prog 147 #[.int .u64 (hi:Int),.int .u64 (lo:Int)] w fun e w'=>e=.returned (.int .u64 (s:Int))∧w=w':=by
  have CD:=Lib.hid (fun r (hr:s≤r) (hr2:r≤9223372036854775808) w=>div_at (hi:=hi) (lo:=lo) (r:=r) hl (by omega) h1 (by omega) hr2 w)
  have NE:=Lib.hid (fun r (hs:s≤r) (hq:r≤(hi*18446744073709551616+lo) / r)=>newton_end (N:=hi*18446744073709551616+lo) (r:=r) r2 hs (by omega) hq)
  have NS:=Lib.hid (fun r (hs:s≤r) (hq:(hi*18446744073709551616+lo) / r<r)=>newton_down (N:=hi*18446744073709551616+lo) (r:=r) r1 hs (by omega) hq)
  clear r1 r2 hl h0 h1
  go_enter Tryz.func147,Tryz.ntmps147
  go_wp2
  go_loopw [5] (fun q wx=>∃ r:Nat,q=.int .u64 (r:Int)∧s≤r∧r≤9223372036854775808∧w=wx) (fun q _=>(intOf q).toNat)
  case atStart=>exact ⟨9223372036854775808,rfl,by omega,by omega,rfl⟩
  case round =>
    obtain ⟨r,rfl,h3,h4,rfl⟩:=hrel
    obtain ⟨Q,hQ⟩:∃ Q,(hi*18446744073709551616+lo) / r=Q:=⟨_,rfl⟩
    have CD1:=CD.out r h3 h4
    have NE1:=NE.out r h3
    have NS1:=NS.out r h3
    rw [hQ] at CD1 NE1 NS1
    have CD1:=Lib.hid CD1
    have NE1:=Lib.hid NE1
    have NS1:=Lib.hid NS1
    clear hQ
    by_cases hq:r≤Q
    · have hqi:(r:Int)≤(Q:Int):=by omega
      have HE:=Lib.hid (NE1.out hq)
      clear hq
      go_wp2_with fail
      refine (CD1.out _).mono ?_
      rintro e w1 ⟨rfl,rfl⟩
      go_wp2
      go_ret
      refine ⟨?_,rfl⟩
      show Ending.returned (.int .u64 (r:Int))=_
      rw [HE.out]
    · have hqi:¬ (r:Int)≤(Q:Int):=by omega
      obtain ⟨k1,k2⟩:=NS1.out (by omega)
      have hw:IntKind.u64.wrap ((r:Int)+(Q:Int))=(r:Int)+(Q:Int):=by rw [IntKind.wrap_u64];omega
      have hd:((r:Int)+(Q:Int)) / 2=(((r+Q) / 2:Nat):Int):=by omega
      have HD:=Lib.hid hd
      clear hd
      generalize (r+Q) / 2=r' at *
      clear hq
      go_wp2_with fail
      refine (CD1.out _).mono ?_
      rintro e w1 ⟨rfl,rfl⟩
      go_wp2
      go_roundw
      case rel=>exact ⟨r',by first | rfl | exact congrArg (Value.int IntKind.u64) HD.out,k1,by omega,by first | rfl | trivial⟩
      case measure=>simp [intOf];omega
theorem fdown_exact {hi lo K:Nat} {e kI:Int} (hk:(K:Int)=kI) (hh:hi<18446744073709551616) (hl:lo<18446744073709551616) (he0 : -1000000000000≤e) (he1:e≤1000000000000) (hK:K≤1000000000000) (h0:(hi*18446744073709551616+lo) % 2^K=0) (w:World) :
    Calls Tryz.prog 146 #[.agg #[.int .u64 (hi:Int),.int .u64 (lo:Int),.int .i64 e,.bool false],.int .i64 kI] w fun r w'=>∃ H L:Nat,r=.returned (.agg #[.int .u64 (H:Int),.int .u64 (L:Int),.int .i64 (e+kI),.bool false]) ∧
      H*18446744073709551616+L=(hi*18446744073709551616+lo) / 2^K∧L<18446744073709551616∧Ext w w':=by
  subst hk
  refine (fdown_any hi lo K e false hh hl he0 he1 hK w).mono fun r w' ⟨H,L,hr,hv,_,hL,hE⟩=>⟨H,L,?_,hv,hL,hE⟩
  rw [hr,h0]
  rfl
set_option maxRecDepth 100000 in
set_option maxHeartbeats 4000000 in
theorem frootF_any {N:Nat} {e:Int} (hN0:N≠0) (hN1:N<9007199254740992) (he0 : -100000≤e) (he1:e≤100000) (w:World) :
    Calls Tryz.prog 104 #[.agg #[.int .u64 0,.int .u64 (N:Int),.int .i64 e,.bool false]] w fun x w'=>∃ r E s hi lo,x=.returned (.agg #[.int .u64 0,.int .u64 ((r:Nat):Int),.int .i64 E,.bool (!decide (r*r=N*2^s))])∧RootOf N e (N*2^s) hi lo r E s∧64≤s∧s≤127∧Ext w w':=by
  have CN:=Lib.hid (fun w=>fnormal_any 0 N e false (by omega) (by omega) (by omega) (by omega) (by omega) w)
  have CW:=Lib.hid (fun (hi lo r:Nat) (E:Int) (s M:Nat) (R:RootOf N e M hi lo r E s) w=>wordRoot_any (hi:=hi) (lo:=lo) (s:=r) R.hlo R.hi0 R.hi1 (by rw [R.words];exact R.r0) (by rw [R.words];exact R.r1) R.r2 R.r3 w)
  go_enter Tryz.func104,Tryz.ntmps104
  go_upto_region 1 with fail
  obtain ⟨W,hW,hB,hx,hr,hz⟩:=boxes_nn w 0 (N:Int) e false 0 0 0 false
  rw [←hW]
  clear hW
  generalize hBe:w.heap.size=B at *
  have HBe:=Lib.hid hBe
  clear hBe
  have c0:=hx.c0
  have c1:=hx.c1
  have c2:=hx.c2
  have c3:=hx.c3
  go_wp2_with fail
  refine (CN.out _).mono ?_
  rintro x w1 ⟨H,L,k,rfl,hv,hH0,hH1,hL,hk,hE⟩
  have x1:=hx.below hE
  have r1:=hr.below hE
  have b1:Below B w w1:=hB.trans (Below.mono hE (by omega))
  clear c0 c1 c2 c3 hx hr hB hE CN hz
  have c0:=x1.c0
  have c1:=x1.c1
  have c2:=x1.c2
  have c3:=x1.c3
  have g0:=x1.f 0
  have g1:=x1.f 1
  have g2:=x1.f 2
  have g3:=x1.f 3
  have hv':H*18446744073709551616+L=N*2^k:=by rw [hv,Nat.zero_mul,Nat.zero_add]
  have hk64:74≤k:=by
    rcases Nat.lt_or_ge k 74 with h | h
    · exfalso
      have h2:2^k≤2^73:=Nat.pow_le_pow_right (by omega) (by omega)
      have h3:N*2^k≤N*2^73:=Nat.mul_le_mul_left _ h2
      omega
    · exact h
  obtain ⟨e2,he2⟩:∃ e2:Int,e - (k:Int)=e2:=⟨_,rfl⟩
  have hb2 : -100127≤e2∧e2≤100000:=by omega
  obtain ⟨hb20,hb21⟩:=hb2
  have HV:=Lib.hid hv'
  have HE2:=Lib.hid he2
  clear hv hv'
  go_upto_region 2 with fail
  clear he2
  have x2:=x1.stored (H:Int) (L:Int) e2 false
  have ho:=only_nset4 w1 B (.int .u64 (H:Int)) (.int .u64 (L:Int)) (.int .i64 e2) (.bool false)
  have r2:=r1.only ho (by omega)
  have b2:=b1.trans (ho.below (B:=B) (Nat.le_refl _))
  generalize (((w1.setCell ⟨B,0,none⟩ (.int .u64 (H:Int))).setCell ⟨B,1,none⟩ (.int .u64 (L:Int))).setCell ⟨B,2,none⟩ (.int .i64 e2)).setCell ⟨B,3,none⟩ (.bool false)=W2 at *
  clear c0 c1 c2 c3 g0 g1 g2 g3 x1 r1 b1 ho
  have c0:=x2.c0
  have c1:=x2.c1
  have c2:=x2.c2
  have c3:=x2.c3
  have hband:=and_one_i64 e2
  rcases Int.emod_two_eq e2 with hp | hp
  · rw [hp] at hband
    have hpar:(e - k+(2:Nat)) % 2=0:=by rw [HE2.out];omega
    have hmod:(H*18446744073709551616+L) % 2^2=0:=by
      rw [HV.out]
      obtain ⟨s,hs⟩:∃ s,k=s+2:=⟨k - 2,by omega⟩
      rw [hs,Nat.pow_add,←Nat.mul_assoc]
      exact Nat.mul_mod_left _ _
    have CD:=Lib.hid (fun w=>fdown_exact (hi:=H) (lo:=L) (K:=2) (e:=e2) (kI:=2) rfl hH1 hL (by omega) (by omega) (by omega) hmod w)
    clear hmod hp
    go_wp2_with fail
    refine (CD.out _).mono ?_
    rintro x w3 ⟨H2,L2,rfl,hv2,hL2,hE⟩
    have x3:=x2.below hE
    have r3:=r2.below hE
    have hsz:=x2.lt
    have b3:Below B w w3:=b2.trans (Below.mono hE (by omega))
    clear c0 c1 c2 c3 x2 r2 b2 hE hsz hband
    have c0:=x3.c0
    have c1:=x3.c1
    have c2:=x3.c2
    have c3:=x3.c3
    have g0:=x3.f 0
    have g1:=x3.f 1
    have g2:=x3.f 2
    have g3:=x3.f 3
    have hvk:=HV.out
    obtain ⟨r,E,RO,hE3,-⟩:=root_of (N:=N) (k:=k) (d:=2) (e:=e) (by omega) (by omega) (by rw [←hvk];omega) (by rw [←hvk];omega) hpar (by rw [←hvk];exact hv2) hL2
    rw [HE2.out] at hE3
    obtain ⟨e3,he3⟩:∃ e3:Int,e2+2=e3:=⟨_,rfl⟩
    have hee:e3=2*E:=by rw [←he3,←hE3];rfl
    have htd:e3.tdiv 2=E:=by rw [hee];exact Int.mul_tdiv_cancel_left _ (by omega)
    have htd2:IntKind.i64.wrap E=E:=by rw [IntKind.wrap_i64];omega
    have hex:=exact_word (hi:=H2) (lo:=L2) (r:=r) (by rw [RO.words];exact RO.r0) (by rw [RO.words];exact RO.r1) RO.r3 RO.hlo
    rw [RO.words] at hex
    have hxx:(IntKind.u64.wrap ((r:Int)*(r:Int)) == (L2:Int))=decide (r*r=N*2^(k - 2)):=by
      rw [Bool.eq_iff_iff,beq_iff_eq,decide_eq_true_iff,←hex,IntKind.wrap_u64,←Int.natCast_mul]
      omega
    have RO:=Lib.hid RO
    obtain ⟨ex,hexl⟩:∃ ex,decide (r*r=N*2^(k - 2))=ex:=⟨_,rfl⟩
    rw [hexl] at hxx
    have HEX:=Lib.hid hexl
    clear hv2 hex hexl hE3 hvk hpar hee
    go_upto_region 3 with fail
    have x4:=x3.stored (H2:Int) (L2:Int) e3 false
    have ho:=only_nset4 w3 B (.int .u64 (H2:Int)) (.int .u64 (L2:Int)) (.int .i64 e3) (.bool false)
    have r4:=r3.only ho (by omega)
    have b4:=b3.trans (ho.below (B:=B) (Nat.le_refl _))
    generalize (((w3.setCell ⟨B,0,none⟩ (.int .u64 (H2:Int))).setCell ⟨B,1,none⟩ (.int .u64 (L2:Int))).setCell ⟨B,2,none⟩ (.int .i64 e3)).setCell ⟨B,3,none⟩ (.bool false)=W4 at *
    clear c0 c1 c2 c3 g0 g1 g2 g3 x3 r3 b3 ho
    have c0:=x4.c0
    have c1:=x4.c1
    have c2:=x4.c2
    have c3:=x4.c3
    have q0:=r4.c0
    have q1:=r4.c1
    have q2:=r4.c2
    have q3:=r4.c3
    have p0:=r4.f 0
    have p1:=r4.f 1
    have p2:=r4.f 2
    have p3:=r4.f 3
    have z:=r4.stored 0 (r:Int) E (!ex)
    have z0:=z.c0
    have z1:=z.c1
    have z2:=z.c2
    have z3:=z.c3
    have B4:=Lib.hid (b4.trans ((only_nset4 W4 (B+1) (.int .u64 0) (.int .u64 (r:Int)) (.int .i64 E) (.bool (!ex))).below (B:=B) (by omega)))
    clear z x4 r4 b4
    go_wp2_with fail
    refine (CW.out H2 L2 r E _ _ RO.out _).mono ?_
    rintro x w5 ⟨rfl,rfl⟩
    go_wp2
    refine bodyPost_ret (v:=.agg #[.int .u64 0,.int .u64 (r:Int),.int .i64 E,.bool (!ex)]) (by simp [results,Tryz.results104,go_sem,z0,z1,z2,z3]) rfl ?_
    refine ⟨r,E,k - 2,H2,L2,by rw [HEX.out],RO.out,by omega,by omega,?_⟩
    show Below _ _ _
    rw [HBe.out]
    exact B4.out
  · rw [hp] at hband
    have hpar:(e - k+(3:Nat)) % 2=0:=by rw [HE2.out];omega
    have hmod:(H*18446744073709551616+L) % 2^3=0:=by
      rw [HV.out]
      obtain ⟨s,hs⟩:∃ s,k=s+3:=⟨k - 3,by omega⟩
      rw [hs,Nat.pow_add,←Nat.mul_assoc]
      exact Nat.mul_mod_left _ _
    have CD:=Lib.hid (fun w=>fdown_exact (hi:=H) (lo:=L) (K:=3) (e:=e2) (kI:=3) rfl hH1 hL (by omega) (by omega) (by omega) hmod w)
    clear hmod hp
    go_wp2_with fail
    refine (CD.out _).mono ?_
    rintro x w3 ⟨H2,L2,rfl,hv2,hL2,hE⟩
    have x3:=x2.below hE
    have r3:=r2.below hE
    have hsz:=x2.lt
    have b3:Below B w w3:=b2.trans (Below.mono hE (by omega))
    clear c0 c1 c2 c3 x2 r2 b2 hE hsz hband
    have c0:=x3.c0
    have c1:=x3.c1
    have c2:=x3.c2
    have c3:=x3.c3
    have g0:=x3.f 0
    have g1:=x3.f 1
    have g2:=x3.f 2
    have g3:=x3.f 3
    have hvk:=HV.out
    obtain ⟨r,E,RO,hE3,-⟩:=root_of (N:=N) (k:=k) (d:=3) (e:=e) (by omega) (by omega) (by rw [←hvk];omega) (by rw [←hvk];omega) hpar (by rw [←hvk];exact hv2) hL2
    rw [HE2.out] at hE3
    obtain ⟨e3,he3⟩:∃ e3:Int,e2+3=e3:=⟨_,rfl⟩
    have hee:e3=2*E:=by rw [←he3,←hE3];rfl
    have htd:e3.tdiv 2=E:=by rw [hee];exact Int.mul_tdiv_cancel_left _ (by omega)
    have htd2:IntKind.i64.wrap E=E:=by rw [IntKind.wrap_i64];omega
    have hex:=exact_word (hi:=H2) (lo:=L2) (r:=r) (by rw [RO.words];exact RO.r0) (by rw [RO.words];exact RO.r1) RO.r3 RO.hlo
    rw [RO.words] at hex
    have hxx:(IntKind.u64.wrap ((r:Int)*(r:Int)) == (L2:Int))=decide (r*r=N*2^(k - 3)):=by
      rw [Bool.eq_iff_iff,beq_iff_eq,decide_eq_true_iff,←hex,IntKind.wrap_u64,←Int.natCast_mul]
      omega
    have RO:=Lib.hid RO
    obtain ⟨ex,hexl⟩:∃ ex,decide (r*r=N*2^(k - 3))=ex:=⟨_,rfl⟩
    rw [hexl] at hxx
    have HEX:=Lib.hid hexl
    clear hv2 hex hexl hE3 hvk hpar hee
    go_upto_region 3 with fail
    have x4:=x3.stored (H2:Int) (L2:Int) e3 false
    have ho:=only_nset4 w3 B (.int .u64 (H2:Int)) (.int .u64 (L2:Int)) (.int .i64 e3) (.bool false)
    have r4:=r3.only ho (by omega)
    have b4:=b3.trans (ho.below (B:=B) (Nat.le_refl _))
    generalize (((w3.setCell ⟨B,0,none⟩ (.int .u64 (H2:Int))).setCell ⟨B,1,none⟩ (.int .u64 (L2:Int))).setCell ⟨B,2,none⟩ (.int .i64 e3)).setCell ⟨B,3,none⟩ (.bool false)=W4 at *
    clear c0 c1 c2 c3 g0 g1 g2 g3 x3 r3 b3 ho
    have c0:=x4.c0
    have c1:=x4.c1
    have c2:=x4.c2
    have c3:=x4.c3
    have q0:=r4.c0
    have q1:=r4.c1
    have q2:=r4.c2
    have q3:=r4.c3
    have p0:=r4.f 0
    have p1:=r4.f 1
    have p2:=r4.f 2
    have p3:=r4.f 3
    have z:=r4.stored 0 (r:Int) E (!ex)
    have z0:=z.c0
    have z1:=z.c1
    have z2:=z.c2
    have z3:=z.c3
    have B4:=Lib.hid (b4.trans ((only_nset4 W4 (B+1) (.int .u64 0) (.int .u64 (r:Int)) (.int .i64 E) (.bool (!ex))).below (B:=B) (by omega)))
    clear z x4 r4 b4
    go_wp2_with fail
    refine (CW.out H2 L2 r E _ _ RO.out _).mono ?_
    rintro x w5 ⟨rfl,rfl⟩
    go_wp2
    refine bodyPost_ret (v:=.agg #[.int .u64 0,.int .u64 (r:Int),.int .i64 E,.bool (!ex)]) (by simp [results,Tryz.results104,go_sem,z0,z1,z2,z3]) rfl ?_
    refine ⟨r,E,k - 3,H2,L2,by rw [HEX.out],RO.out,by omega,by omega,?_⟩
    show Below _ _ _
    rw [HBe.out]
    exact B4.out
open Go.RowKit
structure DEnt where
  v:Value
  d:Dy
  c:Bool
def DEnt.Ok (w:World) (p:DEnt):Prop:=Dg w p.v p.d∧(p.c=true→Dn w p.v p.d)
theorem DEnt.Ok.ext {w w':World} {p:DEnt} (h:p.Ok w) (he:Ext w w'):p.Ok w':=⟨h.1.ext he,fun e=>(h.2 e).ext he⟩
structure DSt (W w:World) (L:List DEnt):Prop where
  ext:Ext W w
  tab:Table w
  bag:∀ p∈L,p.Ok w
theorem DSt.step {W w w':World} {L:List DEnt} (h:DSt W w L) (he:Ext w w'):DSt W w' L:=⟨h.ext.trans he,h.tab.below he,fun p hp=>(h.bag p hp).ext he⟩
theorem DSt.drew {W w:World} {L:List DEnt} (h:DSt W w L):DSt W w.drew L:=h.step (Below.refl _ _).drew
theorem DSt.alloc {W w:World} {L:List DEnt} (h:DSt W w L) (o:Obj):DSt W (w.alloc o) L:=h.step ((Below.refl _ w).alloc (Nat.le_refl _) o)
theorem DSt.dn {W w:World} {L:List DEnt} {v:Value} {d:Dy} (h:DSt W w L) (h1:⟨v,d,true⟩∈L):Dn w v d:=(h.bag _ h1).2 rfl
section
variable {W w:World} {L:List DEnt} {u v:Value} {d d':Dy} {c c':Bool}
end
open Go.RowKit
theorem fround_lo {r:Nat} {E:Int} {t:Bool} (h0:4611686018427387904≤r) (h1:r<9223372036854775808) (hE0 : -100000≤E) (hE1:E≤100000) (mode:Int) (w:World) :
    Calls Tryz.prog 100 #[.agg #[.int .u64 0,.int .u64 (r:Int),.int .i64 E,.bool t],.int .u64 0,.int .i64 mode] w fun x w'=>x=.returned (.int .u64 ((fla false r E t mode:Nat):Int))∧Ext w w' :=
  fround_at 0 r E t false mode (by omega) (by omega) (by omega) (fun _=>by omega) (by omega) (by omega) (z:=0) rfl (fla false r E t mode) (by rw [Nat.zero_mul,Nat.zero_add,Nat.zero_add]) w
theorem tz_parts {f:Nat} (h0:sig f≠0):sig f=sig f / 2^tzf (sig f)*2^tzf (sig f):=by
  rcases tzf_isTz (sig f) with ⟨h,_⟩ | ⟨_,m,hm⟩
  · exact absurd h h0
  · have hp:0<2^tzf (sig f):=Nat.pow_pos (by omega)
    have hd:sig f / 2^tzf (sig f)=2*m+1:=by
      conv=>lhs;lhs;rw [hm]
      exact Nat.mul_div_cancel_left _ hp
    rw [hd,Nat.mul_comm]
    exact hm
theorem sig_ne {f:Nat} (h:zeroB f=false):sig f≠0:=fun h1=>of_decide_eq_false h ((sig_zero f).1 h1)
theorem sgn_parts (s:Bool) {A:Nat} (h:A≠0):decide ((if s then -(A:Int) else (A:Int))<0)=s∧(if s then -(A:Int) else (A:Int)).natAbs=A∧(if s then -(A:Int) else (A:Int))≠0:=by
  cases s
  · simp;omega
  · simp;omega
theorem flr_sgz (s:Bool) (N:Nat) (e:Int) (t:Bool) (mode:Int):flr s N e t mode=sgz s+fla s N e t mode:=rfl
theorem frounded_root {f r s hi lo:Nat} {E:Int} {mode:Int} (hf:finB f=true) (hz:zeroB f=false) (hn:fneg f=false) (R:RootOf (sig f) (-1074+(fsh f:Int)) (sig f*2^s) hi lo r E s) :
    fla false r E (!decide (r*r=sig f*2^s)) mode=rootV (fdy f) mode:=by
  have s0:=sig_ne hz
  obtain ⟨p,l,n⟩:=fdy_parts hf s0 (tzf_isTz _)
  have h:=tz_parts s0
  have hr:r=isq (sig f*2^s):=isq_of R.r0 R.r1
  have h1:2^53≤isq (sig f*2^s):=by rw [←hr];exact Nat.le_trans (by decide) R.r2
  have hx:=R.exp
  clear R
  subst hr
  rw [p,hn]
  generalize sig f / 2^tzf (sig f)=A at *
  generalize tzf (sig f)=i at *
  generalize (-1074+(fsh f:Int))=e at *
  simp only [Bool.false_eq_true,if_false]
  unfold rootV
  dsimp only
  rw [if_neg (by omega),if_neg (by omega),Int.natAbs_natCast]
  obtain ⟨k1,k2⟩:=rootK_ok (A:=A) (e:=e+i)
  have h2:=root_long (neg:=false) (mode:=mode) h hx k2 h1 (big_53 (root_big n k1))
  rw [←h2]
  congr 1
  rw [←decide_not]
noncomputable def fsqrtF (f:Nat) (mode:Int):Nat:=if zeroB f||decide (f=9218868437227405312) then f else if nanB f||fneg f then 9221120237041090560 else rootV (fdy f) mode
theorem rootV_encl {d:Dy} {N:Nat} (h:Is d (1074+1074) (N:Int)) :
    rootV d 1<9218868437227405312∧fz (rootV d 1)*fz (rootV d 1)≤N∧rootV d 2≤9218868437227405312∧(rootV d 2<9218868437227405312→N≤fz (rootV d 2)*fz (rootV d 2)):=by
  obtain ⟨m,e,rfl,hnd,hS,hN⟩:=h
  have hp:(0:Int)<2^(e+((1074+1074:Nat):Int)).toNat:=Int.pow_pos (by omega)
  have hm0:¬ m<0:=by
    intro h
    have:=Int.mul_neg_of_neg_of_pos h hp
    omega
  have hb:=nd_blen hnd
  simp only [dm,dx,Option.getD_some] at hb
  obtain ⟨-,hb0,hb1⟩:=hb
  unfold rootV
  dsimp only
  rw [if_neg hm0,if_neg hm0]
  by_cases h0:m=0
  · rw [if_pos h0,if_pos h0]
    have hz:fz 0=0:=(fz_zero 0).2 (by decide)
    rw [hz]
    rw [h0,Int.zero_mul] at hN
    refine ⟨by omega,by omega,by omega,fun _=>by omega⟩
  · rw [if_neg h0,if_neg h0]
    obtain ⟨A,rfl⟩:=Int.eq_ofNat_of_zero_le (show 0≤m by omega)
    rw [Int.natAbs_natCast]
    have hA:A≠0:=by omega
    obtain ⟨p,hpp⟩:∃ p,(e+((1074+1074:Nat):Int)).toNat=p:=⟨_,rfl⟩
    rw [hpp] at hN
    have hN2:N=A*2^p:=by
      have h1:((A*2^p:Nat):Int)=(A:Int)*2^p:=by rw [Int.natCast_mul,Int.natCast_pow];rfl
      have h2:(N:Int)=((A*2^p:Nat):Int):=by rw [h1];exact hN
      omega
    subst hN2
    obtain ⟨k1,k2⟩:=rootK_ok (A:=A) (e:=e)
    have hKb:rootK A e≤127:=by unfold rootK;omega
    have hbig:=root_big hA k1
    generalize rootK A e=K at *
    obtain ⟨E,hE⟩:∃ E:Int,(e - (K:Int)) / 2=E:=⟨_,rfl⟩
    have hE2:2*E+(K:Int)=e:=by omega
    rw [hE]
    have hs:=isq_spec (A*2^K)
    obtain ⟨t,ht⟩:∃ t,decide (isq (A*2^K)*isq (A*2^K)≠A*2^K)=t:=⟨_,rfl⟩
    rw [ht]
    have htf:t=false→isq (A*2^K)*isq (A*2^K)=A*2^K:=by
      intro h
      rw [h] at ht
      exact Decidable.not_not.1 (of_decide_eq_false ht)
    generalize isq (A*2^K)=r at *
    obtain ⟨h1,h2⟩:=hs
    obtain ⟨T,hT⟩:∃ T:Nat,T=100000:=⟨_,rfl⟩
    obtain ⟨q1,q2,q3⟩:=fla_trunc (Q:=r) (e:=E) t (T:=T) (big_53 hbig) (by omega) (by omega)
    have hile:fla false r E t 2≤9218868437227405312:=fla_le _ _ _ _ _
    generalize fla false r E t 1=lo at *
    generalize fla false r E t 2=hi at *
    obtain ⟨c,hc⟩:∃ c:Nat,(c:Int)=E+T:=⟨(E+T).toNat,by omega⟩
    have hvv:∀ x,vu x E T=x*2^c:=fun x=>by unfold vu;rw [show (E+(T:Int)).toNat=c by omega]
    rw [hvv] at q2 q3
    unfold fu at q2 q3
    obtain ⟨u,hu⟩:∃ u,T - 1074=u:=⟨_,rfl⟩
    rw [hu] at q2 q3
    have hP:0<2^(u+u):=Nat.pow_pos (by omega)
    have sq:∀ x k:Nat,x*x*2^(k+k)=x*2^k*(x*2^k):=by
      intro x k
      rw [Nat.pow_add,Nat.mul_mul_mul_comm]
    have eR:A*2^p*2^(u+u)=A*2^K*2^(c+c):=by
      rw [Nat.mul_assoc,Nat.mul_assoc,←Nat.pow_add,←Nat.pow_add]
      refine congrArg (fun x=>A*2^x) ?_
      omega
    refine ⟨q1,?_,hile,fun hf=>?_⟩
    · refine Nat.le_of_mul_le_mul_right ?_ hP
      rw [eR,sq]
      have g1:=Nat.mul_le_mul q2 q2
      rw [←sq r c] at g1
      exact Nat.le_trans g1 (Nat.mul_le_mul_right _ h1)
    · refine Nat.le_of_mul_le_mul_right ?_ hP
      rw [eR,sq]
      have k4:(if t=true then r+1 else r)*2^c≤fz hi*2^u:=by
        rcases q3 with q3 | ⟨_,q3⟩
        · omega
        · exact q3
      have g1:=Nat.mul_le_mul k4 k4
      rw [←sq _ c] at g1
      refine Nat.le_trans (Nat.mul_le_mul_right _ ?_) g1
      cases t with
      | true=>simp only [if_true];omega
      | false=>have:=htf rfl;simp only [Bool.false_eq_true,if_false];omega
theorem rz_self {b:Nat} (hb:finB b=true) (hl:b<18446744073709551616) (mode:Int):frank (rz (fzs b) (-1074) mode)=frank b:=by
  cases hz:zeroB b with
  | true =>
    have h0:=zero_fzs hz
    unfold rz
    rw [if_pos h0]
    have:=zero_rank.2 hz
    rw [this]
    decide
  | false =>
    have h0:=nz_fzs hz
    unfold rz
    rw [if_neg h0,fz_self hb hz hl]
theorem rz_up {S:Int} (k:Nat) (e mode:Int):rz (S*2^k) (e - k) mode=rz S e mode:=by
  unfold rz
  by_cases h:S=0
  · rw [if_pos h,h,Int.zero_mul,if_pos rfl]
  · have h2:S*2^k≠0:=Int.mul_ne_zero h (Int.ne_of_gt (Int.pow_pos (by omega)))
    rw [if_neg h,if_neg h2,rnd_up h]
theorem fin_top {x:Nat} (h:finB x=true) : -9218868437227405312<frank x∧frank x<9218868437227405312:=fin_rank_lt h
theorem fzs_eq {a b:Nat} (ha:nanB a=false) (hb:nanB b=false) (h:frank a=frank b):fzs a=fzs b:=by
  have h1:=(fzs_rank ha hb).1 (by omega)
  have h2:=(fzs_rank hb ha).1 (by omega)
  omega
theorem negp_facts {f:Nat} (lf:f<18446744073709551616) (nf:nanB f=false):nanB (plainF (fnegF f))=false∧plainF (fnegF f)<18446744073709551616∧frank (plainF (fnegF f)) = -frank f∧(finB (plainF (fnegF f))=true→finB f=true∧fzs (plainF (fnegF f)) = -fzs f):=by
  obtain ⟨p1,p2,-⟩:=neg_rank lf nf
  obtain ⟨q1,q2⟩:=plain_facts (fnegF f)
  refine ⟨by rw [q1,p1],plainF_lt fnegF_lt,by rw [q2,p2],fun h=>?_⟩
  have h1:=fin_top h
  have hf:finB f=true:=fin_of_rank nf (by omega) (by omega)
  refine ⟨hf,?_⟩
  rw [←(fneg_fzs lf hf).1]
  exact fzs_eq (by rw [q1,p1]) p1 q2
theorem fsqrt_zero_rank {x:Nat} (h:zeroB x=true) (mode:Int):fsqrtF x mode=x:=by unfold fsqrtF;rw [h];rfl
theorem fsqrt_top {x:Nat} (h:x=9218868437227405312) (mode:Int):fsqrtF x mode=x:=by unfold fsqrtF;rw [h];simp
theorem fsqrt_fin {x:Nat} (fx:finB x=true) (p:0<frank x) (mode:Int):fsqrtF x mode=rootV (fdy x) mode:=by
  obtain ⟨zx,sx,-⟩:=pos_parts p
  have h2:x≠9218868437227405312:=fun h=>by rw [h] at fx;revert fx;decide
  unfold fsqrtF
  rw [zx,decide_eq_false h2,(fin_not fx).1,sx]
  rfl
noncomputable def rootLo (s:Nat):Nat:=plainF (fsqrtF (greatF [0,s]) 1)
noncomputable def rootHi (t:Nat):Nat:=plainF (fsqrtF t 2)
theorem fzs_lt2 {f:Nat} (h:finB f=true):(fzs f).natAbs<2^(52+low46):=by
  have:=fz_bound h
  rw [←fzs_abs] at this
  exact this
theorem frd_is {d:Dy} {S:Nat} {N:Int} (h:Is d S N) (mode:Int):frdF d mode=rz N (-(S:Int)) mode:=by
  obtain ⟨m,e,rfl,-,h0,rfl⟩:=h
  show rz m e mode=_
  have:=rz_up (S:=m) (e+S).toNat e mode
  rw [show e - (((e+S).toNat:Nat):Int) = -(S:Int) by omega] at this
  exact this.symm
structure InI (a b p:Nat):Prop where
  g:Good a b
  f:finB p=true
  l:p<18446744073709551616
  lo:frank a≤frank p
  hi:frank p≤frank b
theorem InI.n {a b p:Nat} (h:InI a b p):nanB p=false:=fin_nan h.f
theorem InI.nm {a b p:Nat} (h:InI a b p):Nm p:=⟨h.l,h.n⟩
theorem InI.of {a b p:Nat} (ha:a<18446744073709551616) (hb:b<18446744073709551616) (hp:p<18446744073709551616) (h:contF a b p=true):InI a b p:=by
  unfold contF at h
  simp only [Bool.and_eq_true,decide_eq_true_eq] at h
  exact ⟨Good.of ha hb h.1.1.1,h.1.1.2,hp,h.1.2,h.2⟩
theorem InI.neg {a b p:Nat} (h:InI a b p):InI (plainF (fnegF b)) (plainF (fnegF a)) (plainF (fnegF p))∧fzs (plainF (fnegF p)) = -fzs p:=by
  obtain ⟨g1,g2,g3⟩:=neg_good h.g
  obtain ⟨m1,m2,m3,m4⟩:=negp_facts h.l h.n
  have t:=fin_top h.f
  have f:=fin_of_rank m1 (by omega) (by omega)
  have h1:=h.lo
  have h2:=h.hi
  exact ⟨⟨g1,f,m2,by omega,by omega⟩,(m4 f).2⟩
theorem pow_twice (k:Nat):2^(k+1)=2^k+2^k:=by rw [Nat.pow_succ];omega
theorem adds_is {p q:Nat} (fp:finB p=true) (fq:finB q=true):Is (dadd (fdy p) (fdy q)) 1074 (fzs p+fzs q):=by
  have h1:=fzs_lt2 fp
  have h2:=fzs_lt2 fq
  have h3:=pow_twice (52+low46)
  refine (fdy_is fp).add (fdy_is fq) (by omega) (B:=52+low46+1) ?_ (by rw [low46_le];omega)
  generalize 2^(52+low46)=P at *
  generalize 2^(52+low46+1)=Q at *
  omega
open Go.RowKit
def upB (neg:Bool) (half:Int) (odd:Bool) (mode:Int):Bool :=
  if mode=1 then neg else if mode=2 then !neg else if mode=3 then false else decide (half > 0)||decide (half=0)&&odd
set_option maxRecDepth 100000 in
set_option maxHeartbeats 2000000 in
theorem refUp_any (neg:Bool) (half:Int) (odd:Bool) (mode:Int) (w:World) :
    Calls Tryz.prog 207 #[.bool neg,.int .i64 half,.bool odd,.int .i64 mode] w fun e w'=>e=.returned (.bool (upB neg half odd mode))∧w=w':=by
  by_cases h1:mode=1
  · have hr:upB neg half odd mode=neg:=by unfold upB;rw [if_pos h1]
    have HR:=Lib.hid hr
    clear hr
    go_enter Tryz.func207,Tryz.ntmps207
    go_wp2
    go_ret
    exact ⟨by rw [HR.out];rfl,rfl⟩
  · by_cases h2:mode=2
    · have hr:upB neg half odd mode = !neg:=by unfold upB;rw [if_neg h1,if_pos h2]
      have HR:=Lib.hid hr
      clear hr
      go_enter Tryz.func207,Tryz.ntmps207
      go_wp2
      go_ret
      exact ⟨by rw [HR.out];rfl,rfl⟩
    · by_cases h3:mode=3
      · have hr:upB neg half odd mode=false:=by unfold upB;rw [if_neg h1,if_neg h2,if_pos h3]
        have HR:=Lib.hid hr
        clear hr
        go_enter Tryz.func207,Tryz.ntmps207
        go_wp2
        go_ret
        exact ⟨by rw [HR.out];rfl,rfl⟩
      · have hr:upB neg half odd mode=(decide (half > 0)||decide (half=0)&&odd):=by unfold upB;rw [if_neg h1,if_neg h2,if_neg h3]
        have HR:=Lib.hid hr
        clear hr
        by_cases g1:half > 0
        · have HQ:=Lib.hid (show (decide (half > 0)||decide (half=0)&&odd)=true by rw [decide_eq_true g1];rfl)
          go_enter Tryz.func207,Tryz.ntmps207
          go_wp2
          go_ret
          exact ⟨by rw [HR.out,HQ.out];rfl,rfl⟩
        · by_cases g2:half=0
          · subst g2
            have HQ:=Lib.hid (show (decide ((0:Int) > 0)||decide ((0:Int)=0)&&odd)=odd by cases odd <;> rfl)
            clear g1
            go_enter Tryz.func207,Tryz.ntmps207
            go_wp2
            go_ret
            exact ⟨by rw [HR.out,HQ.out];rfl,rfl⟩
          · have HQ:=Lib.hid (show (decide (half > 0)||decide (half=0)&&odd)=false by rw [decide_eq_false g1,decide_eq_false g2];rfl)
            go_enter Tryz.func207,Tryz.ntmps207
            go_wp2
            go_ret
            exact ⟨by rw [HR.out,HQ.out];rfl,rfl⟩
set_option maxRecDepth 100000 in
set_option maxHeartbeats 2000000 in
theorem refLost_any (nb:Bool) (ao:Option Addr) (n cap:Nat) (x:Int) (e:Nat) (b:Bool) (hb:decide (x.natAbs % 2^e≠0)=b) (w:World) (h:Bg w nb ao n cap x) (he:e≤1048576) :
    Calls Tryz.prog 206 #[.agg #[.bool nb,.slice ao n cap],.int .i64 (e:Int)] w fun r w'=>r=.returned (.bool b)∧Ext w w':=by
  have hsm:=h.small
  obtain ⟨zs,hz,hx⟩:=h.1
  have hnum:(num zs).toNat=x.natAbs:=by rw [hx,sgd_natAbs hz.wf]
  have HN:=Lib.hid hnum
  have HB:=Lib.hid hb
  clear h hx hnum hb
  go_enter Tryz.func206,Tryz.ntmps206
  go_upto_region 1 with fail
  obtain ⟨W,hW,hB,hbx,hz1⟩:=box_new w nb ao n cap
  rw [←hW]
  clear hW
  have hz:=hz.below hB
  have HE:=Lib.hid (show Ext w W from hB)
  generalize w.heap.size=B at *
  have k0:=hbx.c0
  have k1:=hbx.c1
  go_wp2_with fail
  refine (refTrim_any ao n cap zs W hz).mono ?_
  rintro r w1 ⟨ro,k,rc,rfl,hs,hk,hw1⟩
  rw [HN.out] at hs
  have C:=Lib.hid (refShr_num x.natAbs e ro k rc w1 hs (by omega) (by omega))
  clear hs hz k0 k1
  go_wp2_with fail
  refine C.out.mono ?_
  rintro r w3 ⟨so,l,sc,L,rfl,hL,-,hl,hw3⟩
  rw [HB.out]
  have hfin:=Lib.hid (Ext.trans (Ext.trans HE.out hw1) hw3)
  go_wp2
  go_ret
  exact ⟨rfl,hfin.out⟩
end Go.Proofs.YtkomhemjodbkpaaGreatDoor
