import Derived.Test.YtkomhemjodbkpaaGreatDoorIExLawU1
import Derived.Test.YtkomhemjodbkpaaGreatDoorIExLawU2
import Derived.Test.YtkomhemjodbkpaaGreatDoorIExLawU3
import Derived.RegionTactic
import Derived.ChangeAlike
import Derived.BigRegion
import Derived.Test.YtkomhemjodbkpaaGreatDoorRows
import Derived.Test.YtkomhemjodbkpaaGreatDoorIExLawU0
import Derived.WalkKit
import Derived.WalkSpells
import Derived.WalkLawsBesides
namespace Go.Proofs.YtkomhemjodbkpaaGreatDoor
open Go.RowKit
set_option maxRecDepth 100000 in
set_option maxHeartbeats 1000000 in
theorem fsplit_any (f:Nat) (hf:f<18446744073709551616) (w:World) :
    Calls Tryz.prog 99 #[.int .u64 (f:Int)] w fun e w'=>e=.returned (.agg #[.int .u64 0,.int .u64 ((sig f:Nat):Int),.int .i64 (-1074+(fsh f:Int)),.bool false])∧Ext w w':=by
  have ha:=andNot_sign hf
  have hb:=and_frac hf
  have hm:=fmag_lt f
  have hfr:f % 4503599627370496=fmag f % 4503599627370496:=by unfold fmag;omega
  rw [hfr] at hb
  have hd:((fmag f:Nat):Int) / 4503599627370496=((ffld f:Nat):Int):=by unfold ffld;omega
  have hq:ffld f<2048:=by unfold ffld;omega
  have ho:=or_hidden (a:=fmag f % 4503599627370496) (by omega)
  by_cases h0:ffld f=0
  · have e1:sig f=fmag f % 4503599627370496:=by unfold sig;rw [if_pos h0];unfold ffld at h0;omega
    have e2:fsh f=0:=by unfold fsh;omega
    rw [e1,e2]
    rw [h0] at hd
    clear e1 e2 h0 ho hq hfr
    generalize fmag f % 4503599627370496=r at *
    generalize fmag f=m at *
    go_enter Tryz.func99,Tryz.ntmps99
    go_wp2
    exact bodyPost_ret (v:=.agg #[.int .u64 0,.int .u64 r,.int .i64 (-1074),.bool false]) (by simp [results,Tryz.results99,go_sem]) rfl ⟨rfl,(Below.refl _ _).alloc (Nat.le_refl _) _⟩
  · have e1:sig f=fmag f % 4503599627370496+4503599627370496:=by unfold sig;rw [if_neg h0]
    obtain ⟨k,hk⟩:∃ k,ffld f=k+1:=⟨ffld f - 1,by omega⟩
    have e2:fsh f=k:=by unfold fsh;omega
    rw [e1,e2]
    rw [hk] at hd hq
    clear e1 e2 h0 hfr hk
    generalize fmag f % 4503599627370496+4503599627370496=z at *
    generalize fmag f % 4503599627370496=r at *
    generalize fmag f=m at *
    obtain ⟨q,hqq⟩:∃ q:Int,((k+1:Nat):Int)=q:=⟨_,rfl⟩
    rw [hqq] at hd
    have q0:0<q:=by omega
    have q1:q<2048:=by omega
    have q2 : -1074+(k:Int) = -1074+(q - 1):=by omega
    have Q2:=Lib.hid q2
    clear q2 hqq hq
    go_enter Tryz.func99,Tryz.ntmps99
    go_wp2
    exact bodyPost_ret (v:=.agg #[.int .u64 0,.int .u64 z,.int .i64 (-1074+(q - 1)),.bool false]) (by simp [results,Tryz.results99,go_sem]) rfl ⟨by rw [Q2.out],(Below.refl _ _).alloc (Nat.le_refl _) _⟩
theorem cast_pow2 (k:Nat):((2^k:Nat):Int)=2^k:=by rw [Int.natCast_pow];rfl
theorem cast_mulpow (a k:Nat):((a*2^k:Nat):Int)=(a:Int)*2^k:=by rw [Int.natCast_mul,cast_pow2]
theorem cast_divpow (a k:Nat):((a / 2^k:Nat):Int)=(a:Int) / 2^k:=by rw [←cast_pow2];exact Int.natCast_ediv _ _
theorem cast_modpow (a k M:Nat):((a*2^k % M:Nat):Int)=(a:Int)*2^k % (M:Int):=by rw [Int.natCast_emod,cast_mulpow]
theorem wrap_nat {a:Nat} (h:a<18446744073709551616):IntKind.u64.wrap (a:Int)=(a:Int):=by rw [IntKind.wrap_u64];omega
theorem norm_words {hi lo k:Nat} (hlo:lo<18446744073709551616) (hk:k≤64) (hb:hi<2^(64 - k)) :
    (hi*2^k+lo / 2^(64 - k))*18446744073709551616+lo*2^k % 18446744073709551616=(hi*18446744073709551616+lo)*2^k∧hi*2^k+lo / 2^(64 - k)<18446744073709551616∧lo / 2^(64 - k)<2^k∧hi*2^k<18446744073709551616:=by
  have e:(18446744073709551616:Nat)=2^(64 - k)*2^k:=by rw [←Nat.pow_add,show 64 - k+k=64 by omega]
  have hp:0<2^(64 - k):=Nat.pow_pos (by omega)
  have hq:0<2^k:=Nat.pow_pos (by omega)
  have e1:lo*2^k / 18446744073709551616=lo / 2^(64 - k):=by rw [e,Nat.mul_div_mul_right _ _ hq]
  have e2:lo / 2^(64 - k)<2^k:=by rw [Nat.div_lt_iff_lt_mul hp,Nat.mul_comm,←e];exact hlo
  have e3:hi*2^k+2^k≤18446744073709551616:=by
    have:=Nat.mul_le_mul_right (2^k) (show hi+1≤2^(64 - k) from hb)
    rwa [Nat.add_mul,Nat.one_mul,←e] at this
  have e4:=Nat.div_add_mod (lo*2^k) 18446744073709551616
  rw [e1] at e4
  refine ⟨?_,by omega,e2,by omega⟩
  rw [Nat.add_mul,Nat.add_mul (hi*18446744073709551616),Nat.mul_right_comm hi (2^k),Nat.add_assoc,Nat.mul_comm (lo / 2^(64 - k)),e4]
theorem lz_any {x k:Nat} (h0:2^(63 - k)≤x) (h1:x<2^(64 - k)) (hk:k≤63) (w:World) :
    Calls Tryz.prog 183 #[.int .u64 x] w fun e w'=>e=.returned (.int .i64 (k:Int))∧w=w':=by
  have hx:x<2^64:=Nat.lt_of_lt_of_le h1 (Nat.pow_le_pow_right (by omega) (by omega))
  have hx0:x≠0:=by have:=Nat.pow_pos (n:=63 - k) (show 0<2 by omega);omega
  obtain ⟨l,hl,l1,l2⟩:=bitLen_spec x hx0 hx
  have e:l=63 - k:=by
    have a1:=(Nat.pow_lt_pow_iff_right (show 1<2 by omega)).1 (Nat.lt_of_le_of_lt l1 h1)
    have a2:=(Nat.pow_lt_pow_iff_right (show 1<2 by omega)).1 (Nat.lt_of_le_of_lt h0 l2)
    omega
  refine (Tryz.bits_LeadingZeros64 (x:Int) w (by omega) (by omega)).mono ?_
  rintro e w' ⟨rfl,rfl⟩
  refine ⟨?_,rfl⟩
  rw [Int.toNat_natCast,hl]
  congr 2
  omega
set_option maxRecDepth 100000 in
set_option maxHeartbeats 2000000 in
theorem fnormal_hi (hi lo k:Nat) (e:Int) (t:Bool) (h0:2^(63 - k)≤hi) (h1:hi<2^(64 - k)) (hk:k≤63) (hlo:lo<18446744073709551616) (he0 : -1000000000000≤e) (he1:e≤1000000000000) (w:World) :
    Calls Tryz.prog 139 #[.agg #[.int .u64 (hi:Int),.int .u64 (lo:Int),.int .i64 e,.bool t]] w fun r w'=>r=.returned (.agg #[.int .u64 ((hi*2^k+lo / 2^(64 - k):Nat):Int),.int .u64 ((lo*2^k % 18446744073709551616:Nat):Int),.int .i64 (e - k),.bool t])∧Ext w w':=by
  obtain ⟨-,hb,hc,hd⟩:=norm_words hlo (show k≤64 by omega) h1
  have hi0:((hi:Int) == 0)=false:=by
    have:=Nat.pow_pos (n:=63 - k) (show 0<2 by omega)
    rw [beq_eq_false_iff_ne];omega
  have CL:=Lib.hid (lz_any h0 h1 hk)
  clear h0 h1
  have hs1:IntKind.u64.wrap ((hi:Int)*2^k)=((hi*2^k:Nat):Int):=by rw [←cast_mulpow];exact wrap_nat hd
  have hs2:(lo:Int) / 2^(64 - k)=((lo / 2^(64 - k):Nat):Int):=(cast_divpow _ _).symm
  have hs3:=or_add hc hb
  have hs4:IntKind.u64.wrap ((lo:Int)*2^k)=((lo*2^k % 18446744073709551616:Nat):Int):=by rw [IntKind.wrap_u64];exact (cast_modpow lo k 18446744073709551616).symm
  have hs5:(lo:Int)*2^k % 18446744073709551616=((lo*2^k % 18446744073709551616:Nat):Int):=(cast_modpow lo k 18446744073709551616).symm
  have hk3:e - (k:Int)=e - k:=rfl
  generalize hi*2^k+lo / 2^(64 - k)=Y at *
  generalize hi*2^k=A at *
  generalize lo / 2^(64 - k)=X at *
  generalize lo*2^k % 18446744073709551616=Z at *
  clear hc hb hd hk3
  have k0:(0:Int)≤(k:Int):=by omega
  have k1:(0:Int)≤64 - (k:Int):=by omega
  have k2:(k:Int)≤64:=by omega
  go_enter Tryz.func139,Tryz.ntmps139
  go_upto_region 1 with fail
  obtain ⟨W,hW,hB,hx,hr,hz⟩:=boxes_nn w hi lo e t 0 0 0 false
  rw [←hW]
  clear hW
  generalize hBe:w.heap.size=B at *
  have HBe:=Lib.hid hBe
  clear hBe
  have c0:=hx.c0
  have c1:=hx.c1
  have c2:=hx.c2
  have c3:=hx.c3
  have g0:=hx.f 0
  have g1:=hx.f 1
  have g2:=hx.f 2
  have g3:=hx.f 3
  go_wp2_with (refine (CL.out _).mono ?_;rintro e w' ⟨rfl,rfl⟩)
  go_region
  go_upto_region 7 with fail
  obtain ⟨W1,hW1,x1,r1,b1⟩:∃ W1,(((W.setCell ⟨B,0,none⟩ (.int .u64 Y)).setCell ⟨B,1,none⟩ (.int .u64 Z)).setCell ⟨B,2,none⟩ (.int .i64 (e - k))).drew=W1∧NBox W1 B Y Z (e - k) t∧NBox W1 (B+1) 0 0 0 false∧Below B w W1 :=
    ⟨_,rfl,(hx.stored012 Y Z (e - k)).drew,(hr.only (only_nset3 _ _ _ _ _) (by omega)).drew,(hB.trans ((only_nset3 _ _ _ _ _).below (Nat.le_refl _))).drew⟩
  rw [hW1]
  clear hW1 hx hr hB c0 c1 c2 c3 g0 g1 g2 g3 hz hs1 hs2 hs3 hs4 hs5
  have c0:=x1.c0
  have c1:=x1.c1
  have c2:=x1.c2
  have c3:=x1.c3
  have q0:=r1.c0
  have q1:=r1.c1
  have q2:=r1.c2
  have q3:=r1.c3
  have p0:=r1.f 0
  have p1:=r1.f 1
  have p2:=r1.f 2
  have p3:=r1.f 3
  have z:=r1.stored Y Z (e - k) t
  have z0:=z.c0
  have z1:=z.c1
  have z2:=z.c2
  have z3:=z.c3
  have B1:=Lib.hid (b1.trans ((only_nset4 W1 (B+1) (.int .u64 Y) (.int .u64 Z) (.int .i64 (e - k)) (.bool t)).below (B:=B) (by omega)))
  clear z x1 r1 b1
  go_wp2
  refine bodyPost_ret (v:=.agg #[.int .u64 Y,.int .u64 Z,.int .i64 (e - k),.bool t]) (by simp [results,Tryz.results139,go_sem,z0,z1,z2,z3]) rfl ⟨rfl,?_⟩
  show Below _ _ _
  rw [HBe.out]
  exact B1.out
set_option maxRecDepth 100000 in
set_option maxHeartbeats 2000000 in
theorem fnormal_lo (lo k:Nat) (e:Int) (t:Bool) (h0:2^(63 - k)≤lo) (h1:lo<2^(64 - k)) (hk:k≤63) (he0 : -1000000000000≤e) (he1:e≤1000000000000) (w:World) :
    Calls Tryz.prog 139 #[.agg #[.int .u64 0,.int .u64 (lo:Int),.int .i64 e,.bool t]] w fun r w'=>r=.returned (.agg #[.int .u64 ((lo*2^k:Nat):Int),.int .u64 0,.int .i64 (e - 64 - k),.bool t])∧Ext w w':=by
  obtain ⟨-,-,-,hd⟩:=norm_words (lo:=0) (by omega) (show k≤64 by omega) h1
  have CL:=Lib.hid (lz_any h0 h1 hk)
  clear h0 h1
  have hs1:IntKind.u64.wrap ((lo:Int)*2^k)=((lo*2^k:Nat):Int):=by rw [←cast_mulpow];exact wrap_nat hd
  have hs3:bits BinOp.or IntKind.u64 ((lo*2^k:Nat):Int) 0=((lo*2^k:Nat):Int):=by
    have:=or_add (a:=lo) (b:=0) (k:=k) (Nat.pow_pos (by omega)) (by omega)
    exact this
  generalize lo*2^k=A at *
  clear hd
  have k0:(0:Int)≤(k:Int):=by omega
  have k1:(0:Int)≤64 - (k:Int):=by omega
  have k2:(k:Int)≤64:=by omega
  go_enter Tryz.func139,Tryz.ntmps139
  go_upto_region 1 with fail
  obtain ⟨W,hW,hB,hx,hr,hz⟩:=boxes_nn w 0 lo e t 0 0 0 false
  rw [←hW]
  clear hW
  generalize hBe:w.heap.size=B at *
  have HBe:=Lib.hid hBe
  clear hBe
  have c0:=hx.c0
  have c1:=hx.c1
  have c2:=hx.c2
  have c3:=hx.c3
  have g0:=hx.f 0
  have g1:=hx.f 1
  have g2:=hx.f 2
  have g3:=hx.f 3
  go_upto_region 3 with fail
  obtain ⟨W0,hW0,x0,r0,b0⟩:∃ W0,((W.setCell ⟨B,0,none⟩ (.int .u64 lo)).setCell ⟨B,1,none⟩ (.int .u64 0)).setCell ⟨B,2,none⟩ (.int .i64 (e - 64))=W0∧NBox W0 B lo 0 (e - 64) t∧NBox W0 (B+1) 0 0 0 false∧Below B w W0 :=
    ⟨_,rfl,hx.stored012 lo 0 (e - 64),hr.only (only_nset3 _ _ _ _ _) (by omega),hB.trans ((only_nset3 _ _ _ _ _).below (Nat.le_refl _))⟩
  rw [hW0]
  clear hW0 hx hr hB c0 c1 c2 c3 g0 g1 g2 g3
  have c0:=x0.c0
  have c1:=x0.c1
  have c2:=x0.c2
  have c3:=x0.c3
  have g0:=x0.f 0
  have g1:=x0.f 1
  have g2:=x0.f 2
  have g3:=x0.f 3
  go_wp2_with (refine (CL.out _).mono ?_;rintro e w' ⟨rfl,rfl⟩)
  go_region
  go_upto_region 7 with fail
  obtain ⟨W1,hW1,x1,r1,b1⟩:∃ W1,(((W0.setCell ⟨B,0,none⟩ (.int .u64 A)).setCell ⟨B,1,none⟩ (.int .u64 0)).setCell ⟨B,2,none⟩ (.int .i64 (e - 64 - k))).drew=W1∧NBox W1 B A 0 (e - 64 - k) t∧NBox W1 (B+1) 0 0 0 false∧Below B w W1 :=
    ⟨_,rfl,(x0.stored012 A 0 (e - 64 - k)).drew,(r0.only (only_nset3 _ _ _ _ _) (by omega)).drew,(b0.trans ((only_nset3 _ _ _ _ _).below (Nat.le_refl _))).drew⟩
  rw [hW1]
  clear hW1 x0 r0 b0 c0 c1 c2 c3 g0 g1 g2 g3 hz hs1 hs3
  have c0:=x1.c0
  have c1:=x1.c1
  have c2:=x1.c2
  have c3:=x1.c3
  have q0:=r1.c0
  have q1:=r1.c1
  have q2:=r1.c2
  have q3:=r1.c3
  have p0:=r1.f 0
  have p1:=r1.f 1
  have p2:=r1.f 2
  have p3:=r1.f 3
  have z:=r1.stored A 0 (e - 64 - k) t
  have z0:=z.c0
  have z1:=z.c1
  have z2:=z.c2
  have z3:=z.c3
  have B1:=Lib.hid (b1.trans ((only_nset4 W1 (B+1) (.int .u64 A) (.int .u64 0) (.int .i64 (e - 64 - k)) (.bool t)).below (B:=B) (by omega)))
  clear z x1 r1 b1
  go_wp2
  refine bodyPost_ret (v:=.agg #[(.int .u64 A),(.int .u64 0),.int .i64 (e - 64 - k),.bool t]) (by simp [results,Tryz.results139,go_sem,z0,z1,z2,z3]) rfl ⟨rfl,?_⟩
  show Below _ _ _
  rw [HBe.out]
  exact B1.out
theorem fnormal_any (hi lo:Nat) (e:Int) (t:Bool) (h:hi<18446744073709551616) (hlo:lo<18446744073709551616) (h0:hi*18446744073709551616+lo≠0) (he0 : -1000000000000≤e) (he1:e≤1000000000000) (w:World) :
    Calls Tryz.prog 139 #[.agg #[.int .u64 (hi:Int),.int .u64 (lo:Int),.int .i64 e,.bool t]] w fun r w'=>∃ H L k:Nat,r=.returned (.agg #[.int .u64 (H:Int),.int .u64 (L:Int),.int .i64 (e - k),.bool t]) ∧
      H*18446744073709551616+L=(hi*18446744073709551616+lo)*2^k∧9223372036854775808≤H∧H<18446744073709551616∧L<18446744073709551616∧k≤127∧Ext w w':=by
  by_cases hh:hi=0
  · subst hh
    obtain ⟨l,-,l1,l2⟩:=bitLen_spec lo (by omega) (by omega)
    have hl:l<64:=(Nat.pow_lt_pow_iff_right (show 1<2 by omega)).1 (Nat.lt_of_le_of_lt l1 hlo)
    obtain ⟨k,hk⟩:∃ k,l=63 - k∧k≤63:=⟨63 - l,by omega,by omega⟩
    obtain ⟨rfl,hk⟩:=hk
    rw [show 63 - k+1=64 - k by omega] at l2
    obtain ⟨-,-,-,hd⟩:=norm_words (lo:=0) (by omega) (show k≤64 by omega) l2
    refine (fnormal_lo lo k e t l1 l2 hk he0 he1 w).mono fun r w' ⟨hr,hw⟩=>⟨lo*2^k,0,64+k,?_,?_,?_,hd,by omega,by omega,hw⟩
    · rw [hr,show e - 64 - (k:Int)=e - ((64+k:Nat):Int) by push_cast;omega]
      rfl
    · rw [Nat.zero_mul,Nat.zero_add,Nat.add_zero,Nat.pow_add,Nat.mul_comm (2^64),←Nat.mul_assoc]
    · have:=Nat.mul_le_mul_right (2^k) l1
      rwa [←Nat.pow_add,show 63 - k+k=63 by omega] at this
  · obtain ⟨l,-,l1,l2⟩:=bitLen_spec hi hh (by omega)
    have hl:l<64:=(Nat.pow_lt_pow_iff_right (show 1<2 by omega)).1 (Nat.lt_of_le_of_lt l1 h)
    obtain ⟨k,hk⟩:∃ k,l=63 - k∧k≤63:=⟨63 - l,by omega,by omega⟩
    obtain ⟨rfl,hk⟩:=hk
    rw [show 63 - k+1=64 - k by omega] at l2
    obtain ⟨n1,n2,n3,n4⟩:=norm_words hlo (show k≤64 by omega) l2
    refine (fnormal_hi hi lo k e t l1 l2 hk hlo he0 he1 w).mono fun r w' ⟨hr,hw⟩=>⟨_,_,k,hr,n1,?_,n2,Nat.mod_lt _ (by omega),by omega,hw⟩
    have:=Nat.mul_le_mul_right (2^k) l1
    rw [←Nat.pow_add,show 63 - k+k=63 by omega] at this
    exact Nat.le_trans this (Nat.le_add_right _ _)
open Go.RowKit
structure Dn64 (N K:Nat) (t0:Bool) (h l:Nat) (t:Bool) (k:Nat):Prop where
  q:(h*18446744073709551616+l) / 2^k=N / 2^K
  r:(t||decide ((h*18446744073709551616+l) % 2^k≠0))=(t0||decide (N % 2^K≠0))
theorem word_split {h l k:Nat} (hl:l<18446744073709551616) :
    (h*18446744073709551616+l) / 2^(k+64)=h / 2^k∧((h*18446744073709551616+l) % 2^(k+64)≠0↔l≠0∨h % 2^k≠0):=by
  have e:(2:Nat)^(k+64)=18446744073709551616*2^k:=by rw [Nat.pow_add,Nat.mul_comm]
  have e1:(h*18446744073709551616+l) / 18446744073709551616=h:=by omega
  have e2:(h*18446744073709551616+l) % 18446744073709551616=l:=by omega
  rw [e]
  refine ⟨by rw [←Nat.div_div_eq_div_mul,e1],?_⟩
  rw [Nat.mod_mul,e1,e2]
  generalize h % 2^k=r
  omega
theorem Dn64.step {N K h l k:Nat} {t0 t:Bool} (d:Dn64 N K t0 h l t (k+64)) (hl:l<18446744073709551616):Dn64 N K t0 0 h (t||decide (l≠0)) k:=by
  obtain ⟨h1,h2⟩:=word_split (h:=h) (k:=k) hl
  have h3:decide ((h*18446744073709551616+l) % 2^(k+64)≠0)=(decide (l≠0)||decide (h % 2^k≠0)):=by
    rw [←Bool.decide_or];exact decide_eq_decide.2 h2
  refine ⟨?_,?_⟩
  · rw [Nat.zero_mul,Nat.zero_add,←h1];exact d.q
  · rw [Nat.zero_mul,Nat.zero_add,←d.r,h3,Bool.or_assoc]
theorem Dn64.last {N K h l k:Nat} {t0 t:Bool} (d:Dn64 N K t0 h l t k) (_hh:h<18446744073709551616) (hl:l<18446744073709551616) (hk:k<64) :
    h / 2^k*18446744073709551616+(h*2^(64 - k) % 18446744073709551616+l / 2^k)=N / 2^K∧(t||decide (l*2^(64 - k) % 18446744073709551616≠0))=(t0||decide (N % 2^K≠0)) ∧
    l / 2^k<2^(64 - k)∧h*2^(64 - k) % 18446744073709551616=h % 2^k*2^(64 - k)∧h*2^(64 - k) % 18446744073709551616+l / 2^k<18446744073709551616:=by
  have e:(18446744073709551616:Nat)=2^k*2^(64 - k):=by rw [←Nat.pow_add,show k+(64 - k)=64 by omega]
  have hp:0<2^k:=Nat.pow_pos (by omega)
  have hq:0<2^(64 - k):=Nat.pow_pos (by omega)
  have r1:=rest_eq (h:=h) (d:=k) (by omega)
  have r2:=rest_eq (h:=l) (d:=k) (by omega)
  have l1:l / 2^k<2^(64 - k):=by rw [Nat.div_lt_iff_lt_mul hp,Nat.mul_comm,←e];exact hl
  have m1:=Nat.mod_lt h hp
  have l2:h % 2^k*2^(64 - k)+2^(64 - k)≤18446744073709551616:=by
    have:=Nat.mul_le_mul_right (2^(64 - k)) (show h % 2^k+1≤2^k from m1)
    rwa [Nat.add_mul,Nat.one_mul,←e] at this
  have dm:=Nat.div_add_mod h (2^k)
  have key:h*18446744073709551616+l=2^k*(h / 2^k*18446744073709551616+h % 2^k*2^(64 - k))+l:=by
    congr 1
    have a1:2^k*(h % 2^k*2^(64 - k))=h % 2^k*18446744073709551616:=by
      rw [Nat.mul_left_comm,←e]
    rw [Nat.mul_add,a1,←Nat.mul_assoc,←Nat.add_mul,dm]
  have d1:(h*18446744073709551616+l) / 2^k=h / 2^k*18446744073709551616+h % 2^k*2^(64 - k)+l / 2^k:=by
    rw [key,Nat.mul_add_div hp]
  have d2:(h*18446744073709551616+l) % 2^k=l % 2^k:=by rw [key,Nat.mul_add_mod]
  refine ⟨by rw [r1,←Nat.add_assoc,←d1];exact d.q,?_,l1,r1,by rw [r1];omega⟩
  rw [←d.r,d2]
  congr 1
  refine decide_eq_decide.2 ?_
  rw [r2]
  constructor
  · intro h1 h2;exact h1 (by rw [h2,Nat.zero_mul])
  · intro h1 h2;rcases Nat.mul_eq_zero.1 h2 with h3 | h3 <;> omega
theorem Dn64.start (N:Nat) {k:Nat} (t:Bool) {h l:Nat} (hN:N=h*18446744073709551616+l) (hh:h<18446744073709551616) (hl:l<18446744073709551616):Dn64 N k t h l t (min k 128):=by
  by_cases h1:k≤128
  · rw [Nat.min_eq_left h1,hN];exact ⟨rfl,rfl⟩
  · rw [Nat.min_eq_right (by omega)]
    have hb:N<2^128:=by rw [hN];omega
    have h2:2^128≤2^k:=Nat.pow_le_pow_right (by omega) (by omega)
    refine ⟨?_,?_⟩
    · rw [←hN,Nat.div_eq_of_lt hb,Nat.div_eq_of_lt (by omega)]
    · rw [←hN,Nat.mod_eq_of_lt hb,Nat.mod_eq_of_lt (by omega)]
theorem or_comm64 {a b:Nat} (ha:a<18446744073709551616) (hb:b<18446744073709551616):bits BinOp.or IntKind.u64 (a:Int) (b:Int)=bits BinOp.or IntKind.u64 (b:Int) (a:Int):=by
  rw [bits_or_u64_nat _ _ ha hb,bits_or_u64_nat _ _ hb ha,Nat.or_comm]
theorem NBox.stored2 {w:World} {g:Nat} {hi lo e:Int} {t:Bool} (h:NBox w g hi lo e t) (e':Int):NBox (w.setCell ⟨g,2,none⟩ (.int .i64 e')) g hi lo e' t:=by
  unfold NBox at h ⊢
  simp [World.setCell,Array.getElem?_modify,h]
theorem NBox.stored3 {w:World} {g:Nat} {hi lo e:Int} {t:Bool} (h:NBox w g hi lo e t) (t':Bool):NBox (w.setCell ⟨g,3,none⟩ (.bool t')) g hi lo e t':=by
  unfold NBox at h ⊢
  simp [World.setCell,Array.getElem?_modify,h]
theorem NBox.stored01 {w:World} {g:Nat} {hi lo e:Int} {t:Bool} (h:NBox w g hi lo e t) (hi' lo':Int):NBox ((w.setCell ⟨g,0,none⟩ (.int .u64 hi')).setCell ⟨g,1,none⟩ (.int .u64 lo')) g hi' lo' e t:=by
  unfold NBox at h ⊢
  simp [World.setCell,Array.getElem?_modify,h]
theorem NBox.stored10 {w:World} {g:Nat} {hi lo e:Int} {t:Bool} (h:NBox w g hi lo e t) (hi' lo':Int):NBox ((w.setCell ⟨g,1,none⟩ (.int .u64 lo')).setCell ⟨g,0,none⟩ (.int .u64 hi')) g hi' lo' e t:=by
  unfold NBox at h ⊢
  simp [World.setCell,Array.getElem?_modify,h]
set_option maxRecDepth 100000 in
set_option maxHeartbeats 4000000 in
theorem fdown_any (hi lo K:Nat) (e:Int) (t:Bool) (hh:hi<18446744073709551616) (hl:lo<18446744073709551616) (he0 : -1000000000000≤e) (he1:e≤1000000000000) (hK:K≤1000000000000) (w:World) :
    Calls Tryz.prog 146 #[.agg #[.int .u64 (hi:Int),.int .u64 (lo:Int),.int .i64 e,.bool t],.int .i64 (K:Int)] w fun r w'=>∃ H L:Nat,r=.returned (.agg #[.int .u64 (H:Int),.int .u64 (L:Int),.int .i64 (e+K),.bool (t||decide ((hi*18446744073709551616+lo) % 2^K≠0))]) ∧
      H*18446744073709551616+L=(hi*18446744073709551616+lo) / 2^K∧H<18446744073709551616∧L<18446744073709551616∧Ext w w':=by
  have hst:=Dn64.start (hi*18446744073709551616+lo) (k:=K) t rfl hh hl
  obtain ⟨kk,hkk⟩:∃ kk,min K 128=kk:=⟨_,rfl⟩
  have hk1:kk≤128:=by omega
  have hk2:min (K:Int) 128=(kk:Int):=by omega
  rw [hkk] at hst
  clear hkk
  obtain ⟨N,hN⟩:∃ N,hi*18446744073709551616+lo=N:=⟨_,rfl⟩
  rw [hN] at hst
  rw [hN]
  clear hN
  obtain ⟨E,hE⟩:∃ E:Int,e+K=E:=⟨_,rfl⟩
  have hst:=Lib.hid hst
  go_enter Tryz.func146,Tryz.ntmps146
  go_upto_region 1 with fail
  obtain ⟨W,hW,hB,hx,hr,hz⟩:=boxes_nn w hi lo e t 0 0 0 false
  rw [←hW]
  clear hW
  generalize hBe:w.heap.size=B at *
  have HBe:=Lib.hid hBe
  clear hBe
  have c2:=hx.c2
  have g2:=hx.f 2
  go_upto_region 3 with fail
  have x1:=hx.stored2 E
  have r1:=hr.only (only_set1 W B 2 (.int .i64 E)) (by omega)
  have b1:=hB.trans ((only_set1 W B 2 (.int .i64 E)).below (Nat.le_refl _))
  have HE:=Lib.hid hE
  generalize W.setCell ⟨B,2,none⟩ (.int .i64 E)=W1 at *
  clear hx hr hB hz c2 g2 hE hk2
  go_loopw [1] (fun kv wx=>∃ (h l:Nat) (tt:Bool) (kk:Nat),kv=.int .i64 kk∧kk≤128∧h<18446744073709551616∧l<18446744073709551616∧Dn64 N K t h l tt kk∧NBox wx B h l E tt∧NBox wx (B+1) 0 0 0 false∧Below B w wx) (fun kv _=>(intOf kv).toNat)
  case atStart=>exact ⟨hi,lo,t,kk,rfl,hk1,hh,hl,hst.out,x1,r1,b1⟩
  case round =>
    clear x1 r1 b1 hst hk1 hh hl
    obtain ⟨h,l,tt,kk,rfl,hk1,hh,hl,hd,x1,r1,b1⟩:=hrel
    have c0:=x1.c0
    have c1:=x1.c1
    have c2:=x1.c2
    have c3:=x1.c3
    have g0:=x1.f 0
    have g1:=x1.f 1
    have g2:=x1.f 2
    have g3:=x1.f 3
    by_cases h64:64≤kk
    · obtain ⟨j,rfl⟩:∃ j,kk=j+64:=⟨kk - 64,by omega⟩
      have hd:=hd.step hl
      have HD:=Lib.hid hd
      clear hd
      have h64:(64:Int)≤((j+64:Nat):Int):=by omega
      have hj:((j+64:Nat):Int) - 64=(j:Int):=by omega
      obtain ⟨q,hq⟩:∃ q:Int,((j+64:Nat):Int)=q:=⟨_,rfl⟩
      rw [hq] at h64 hj
      rw [hq]
      have HQ:=Lib.hid hq
      clear hq
      obtain ⟨tn,htn⟩:∃ tn,(tt||decide (l≠0))=tn:=⟨_,rfl⟩
      rw [htn] at HD
      cases tt with
      | true =>
        obtain rfl:true=tn:=by rw [←htn];rfl
        clear htn
        go_wp2
        go_roundw
        case rel=>exact ⟨0,h,true,j,by first | rfl | rw [hj],by omega,by omega,hh,HD.out,(x1.stored3 true).stored01 0 h,(r1.only (only_set1 _ B 3 _) (by omega)).only (only_set2 _ B _ _) (by omega),(b1.trans ((only_set1 _ B 3 _).below (Nat.le_refl _))).trans ((only_set2 _ B _ _).below (Nat.le_refl _))⟩
        case measure=>have:=HQ.out;simp [intOf] <;> omega
      | false =>
        by_cases hl0:l=0
        · obtain rfl:false=tn:=by rw [←htn,hl0];rfl
          clear htn
          have hl0:((l:Int) != 0)=false:=by rw [bne_eq_false_iff_eq];omega
          go_wp2
          go_roundw
          case rel=>exact ⟨0,h,false,j,by first | rfl | rw [hj],by omega,by omega,hh,HD.out,(x1.stored3 false).stored01 0 h,(r1.only (only_set1 _ B 3 _) (by omega)).only (only_set2 _ B _ _) (by omega),(b1.trans ((only_set1 _ B 3 _).below (Nat.le_refl _))).trans ((only_set2 _ B _ _).below (Nat.le_refl _))⟩
          case measure=>have:=HQ.out;simp [intOf] <;> omega
        · obtain rfl:true=tn:=by rw [←htn];simp [hl0]
          clear htn
          have hl0:((l:Int) != 0)=true:=by rw [bne_iff_ne];omega
          go_wp2
          go_roundw
          case rel=>exact ⟨0,h,true,j,by first | rfl | rw [hj],by omega,by omega,hh,HD.out,(x1.stored3 true).stored01 0 h,(r1.only (only_set1 _ B 3 _) (by omega)).only (only_set2 _ B _ _) (by omega),(b1.trans ((only_set1 _ B 3 _).below (Nat.le_refl _))).trans ((only_set2 _ B _ _).below (Nat.le_refl _))⟩
          case measure=>have:=HQ.out;simp [intOf] <;> omega
    · obtain ⟨d1,d2,d3,d4,d5⟩:=hd.last hh hl (by omega)
      have D1:=Lib.hid d1
      have D2:=Lib.hid d2
      have hs1:IntKind.u64.wrap ((l:Int)*2^(64 - kk))=((l*2^(64 - kk) % 18446744073709551616:Nat):Int):=by rw [IntKind.wrap_u64];exact (cast_modpow l (64 - kk) 18446744073709551616).symm
      have hs2:IntKind.u64.wrap ((h:Int)*2^(64 - kk))=((h*2^(64 - kk) % 18446744073709551616:Nat):Int):=by rw [IntKind.wrap_u64];exact (cast_modpow h (64 - kk) 18446744073709551616).symm
      have hs6:((l:Int)*2^(64 - kk)) % 18446744073709551616=((l*2^(64 - kk) % 18446744073709551616:Nat):Int):=(cast_modpow l (64 - kk) 18446744073709551616).symm
      have hs3:(l:Int) / 2^kk=((l / 2^kk:Nat):Int):=(cast_divpow _ _).symm
      have hs4:(h:Int) / 2^kk=((h / 2^kk:Nat):Int):=(cast_divpow _ _).symm
      have hs5:bits BinOp.or IntKind.u64 ((l / 2^kk:Nat):Int) ((h*2^(64 - kk) % 18446744073709551616:Nat):Int)=((h*2^(64 - kk) % 18446744073709551616+l / 2^kk:Nat):Int):=by
        rw [or_comm64 (by omega) (by omega),d4]
        exact or_add d3 (by rw [←d4];exact d5)
      have hq:h / 2^kk<18446744073709551616:=Nat.lt_of_le_of_lt (Nat.div_le_self _ _) hh
      generalize l*2^(64 - kk) % 18446744073709551616=Z at *
      generalize h*2^(64 - kk) % 18446744073709551616+l / 2^kk=S at *
      generalize h*2^(64 - kk) % 18446744073709551616=Y at *
      generalize l / 2^kk=X at *
      generalize h / 2^kk=Q at *
      clear d1 d2 d3 d4 hd
      have k0:(0:Int)≤(kk:Int):=by omega
      have k1:(kk:Int)≤64:=by omega
      have k2:(0:Int)≤64 - (kk:Int):=by omega
      have h64:(kk:Int)<64:=by omega
      have HQ:=Lib.hid hq
      have HS:=Lib.hid d5
      have HST:=Lib.hid True.intro
      clear hq d5 hst
      cases tt with
      | true =>
        have HTN:=Lib.hid (show (true||decide (Z≠0))=true from rfl)
        go_upto_region 8 with fail
        obtain ⟨W2,hW2,x2,r2,b2⟩:∃ W2,_=W2∧NBox W2 B h l E true∧NBox W2 (B+1) 0 0 0 false∧Below B w W2:=⟨_,rfl,x1.stored3 true,r1.only (only_set1 _ B 3 _) (by omega),b1.trans ((only_set1 _ B 3 _).below (Nat.le_refl _))⟩
        rw [hW2]
        clear hW2 x1 r1 b1 c0 c1 c2 c3 g0 g1 g2 g3
        have c0:=x2.c0
        have c1:=x2.c1
        have c2:=x2.c2
        have c3:=x2.c3
        have g0:=x2.f 0
        have g1:=x2.f 1
        go_region
        go_upto_region 10 with fail
        obtain ⟨W3,hW3,x3,r3,b3⟩:∃ W3,((W2.setCell ⟨B,1,none⟩ (.int .u64 S)).setCell ⟨B,0,none⟩ (.int .u64 Q)).drew=W3∧NBox W3 B Q S E true∧NBox W3 (B+1) 0 0 0 false∧Below B w W3:=⟨_,rfl,(x2.stored10 Q S).drew,(r2.only (((Only.refl B _).setCell _ _).setCell _ _) (by omega)).drew,(b2.trans ((((Only.refl B _).setCell _ _).setCell _ _).below (Nat.le_refl _))).drew⟩
        rw [hW3]
        clear hW3 x2 r2 b2 c0 c1 c2 c3 g0 g1
        have c0:=x3.c0
        have c1:=x3.c1
        have c2:=x3.c2
        have c3:=x3.c3
        have q0:=r3.c0
        have q1:=r3.c1
        have q2:=r3.c2
        have q3:=r3.c3
        have p0:=r3.f 0
        have p1:=r3.f 1
        have p2:=r3.f 2
        have p3:=r3.f 3
        have z:=r3.stored Q S E true
        have z0:=z.c0
        have z1:=z.c1
        have z2:=z.c2
        have z3:=z.c3
        have B1:=Lib.hid (b3.trans ((only_nset4 W3 (B+1) (.int .u64 Q) (.int .u64 S) (.int .i64 E) (.bool true)).below (B:=B) (by omega)))
        clear z x3 r3 b3
        go_wp2
        refine bodyPost_ret (v:=.agg #[.int .u64 Q,.int .u64 S,.int .i64 E,.bool true]) (by simp [results,Tryz.results146,go_sem,z0,z1,z2,z3]) rfl ⟨Q,S,?_,D1.out,HQ.out,HS.out,?_⟩
        · rw [HE.out,←D2.out,HTN.out]
        · show Below _ _ _
          rw [HBe.out]
          exact B1.out
      | false =>
        by_cases hZ:Z=0
        · have HTN:=Lib.hid (show (false||decide (Z≠0))=false by rw [hZ];rfl)
          have hZ:((Z:Int) != 0)=false:=by rw [bne_eq_false_iff_eq];omega
          go_upto_region 8 with fail
          obtain ⟨W2,hW2,x2,r2,b2⟩:∃ W2,_=W2∧NBox W2 B h l E false∧NBox W2 (B+1) 0 0 0 false∧Below B w W2:=⟨_,rfl,x1.stored3 false,r1.only (only_set1 _ B 3 _) (by omega),b1.trans ((only_set1 _ B 3 _).below (Nat.le_refl _))⟩
          rw [hW2]
          clear hW2 x1 r1 b1 c0 c1 c2 c3 g0 g1 g2 g3
          have c0:=x2.c0
          have c1:=x2.c1
          have c2:=x2.c2
          have c3:=x2.c3
          have g0:=x2.f 0
          have g1:=x2.f 1
          go_region
          go_upto_region 10 with fail
          obtain ⟨W3,hW3,x3,r3,b3⟩:∃ W3,((W2.setCell ⟨B,1,none⟩ (.int .u64 S)).setCell ⟨B,0,none⟩ (.int .u64 Q)).drew=W3∧NBox W3 B Q S E false∧NBox W3 (B+1) 0 0 0 false∧Below B w W3:=⟨_,rfl,(x2.stored10 Q S).drew,(r2.only (((Only.refl B _).setCell _ _).setCell _ _) (by omega)).drew,(b2.trans ((((Only.refl B _).setCell _ _).setCell _ _).below (Nat.le_refl _))).drew⟩
          rw [hW3]
          clear hW3 x2 r2 b2 c0 c1 c2 c3 g0 g1
          have c0:=x3.c0
          have c1:=x3.c1
          have c2:=x3.c2
          have c3:=x3.c3
          have q0:=r3.c0
          have q1:=r3.c1
          have q2:=r3.c2
          have q3:=r3.c3
          have p0:=r3.f 0
          have p1:=r3.f 1
          have p2:=r3.f 2
          have p3:=r3.f 3
          have z:=r3.stored Q S E false
          have z0:=z.c0
          have z1:=z.c1
          have z2:=z.c2
          have z3:=z.c3
          have B1:=Lib.hid (b3.trans ((only_nset4 W3 (B+1) (.int .u64 Q) (.int .u64 S) (.int .i64 E) (.bool false)).below (B:=B) (by omega)))
          clear z x3 r3 b3
          go_wp2
          refine bodyPost_ret (v:=.agg #[.int .u64 Q,.int .u64 S,.int .i64 E,.bool false]) (by simp [results,Tryz.results146,go_sem,z0,z1,z2,z3]) rfl ⟨Q,S,?_,D1.out,HQ.out,HS.out,?_⟩
          · rw [HE.out,←D2.out,HTN.out]
          · show Below _ _ _
            rw [HBe.out]
            exact B1.out
        · have HTN:=Lib.hid (show (false||decide (Z≠0))=true by simp [hZ])
          have hZ:((Z:Int) != 0)=true:=by rw [bne_iff_ne];omega
          go_upto_region 8 with fail
          obtain ⟨W2,hW2,x2,r2,b2⟩:∃ W2,_=W2∧NBox W2 B h l E true∧NBox W2 (B+1) 0 0 0 false∧Below B w W2:=⟨_,rfl,x1.stored3 true,r1.only (only_set1 _ B 3 _) (by omega),b1.trans ((only_set1 _ B 3 _).below (Nat.le_refl _))⟩
          rw [hW2]
          clear hW2 x1 r1 b1 c0 c1 c2 c3 g0 g1 g2 g3
          have c0:=x2.c0
          have c1:=x2.c1
          have c2:=x2.c2
          have c3:=x2.c3
          have g0:=x2.f 0
          have g1:=x2.f 1
          go_region
          go_upto_region 10 with fail
          obtain ⟨W3,hW3,x3,r3,b3⟩:∃ W3,((W2.setCell ⟨B,1,none⟩ (.int .u64 S)).setCell ⟨B,0,none⟩ (.int .u64 Q)).drew=W3∧NBox W3 B Q S E true∧NBox W3 (B+1) 0 0 0 false∧Below B w W3:=⟨_,rfl,(x2.stored10 Q S).drew,(r2.only (((Only.refl B _).setCell _ _).setCell _ _) (by omega)).drew,(b2.trans ((((Only.refl B _).setCell _ _).setCell _ _).below (Nat.le_refl _))).drew⟩
          rw [hW3]
          clear hW3 x2 r2 b2 c0 c1 c2 c3 g0 g1
          have c0:=x3.c0
          have c1:=x3.c1
          have c2:=x3.c2
          have c3:=x3.c3
          have q0:=r3.c0
          have q1:=r3.c1
          have q2:=r3.c2
          have q3:=r3.c3
          have p0:=r3.f 0
          have p1:=r3.f 1
          have p2:=r3.f 2
          have p3:=r3.f 3
          have z:=r3.stored Q S E true
          have z0:=z.c0
          have z1:=z.c1
          have z2:=z.c2
          have z3:=z.c3
          have B1:=Lib.hid (b3.trans ((only_nset4 W3 (B+1) (.int .u64 Q) (.int .u64 S) (.int .i64 E) (.bool true)).below (B:=B) (by omega)))
          clear z x3 r3 b3
          go_wp2
          refine bodyPost_ret (v:=.agg #[.int .u64 Q,.int .u64 S,.int .i64 E,.bool true]) (by simp [results,Tryz.results146,go_sem,z0,z1,z2,z3]) rfl ⟨Q,S,?_,D1.out,HQ.out,HS.out,?_⟩
          · rw [HE.out,←D2.out,HTN.out]
          · show Below _ _ _
            rw [HBe.out]
            exact B1.out
open Go.RowKit
theorem ret_bool {a b:Bool} (h:a=b):Ending.returned (.bool a)=.returned (.bool b):=by rw [h]
theorem ret_int {k:IntKind} {a b:Int} (h:a=b):Ending.returned (.int k a)=.returned (.int k b):=by rw [h]
def nanB (f:Nat):Bool:=decide (9218868437227405312<fmag f)
def infB (f:Nat):Bool:=decide (fmag f=9218868437227405312)
def zeroB (f:Nat):Bool:=decide (fmag f=0)
def fkind (f:Nat):Int:=if fmag f=0 then 0 else if fmag f<9218868437227405312 then 1 else if fmag f=9218868437227405312 then 2 else 3
def fnegF (f:Nat):Nat:=if nanB f then 9221120237041090560 else sgz (!fneg f)+fmag f
def fabsF (f:Nat):Nat:=if nanB f then 9221120237041090560 else fmag f
def frank (f:Nat):Int:=if fneg f then -(fmag f:Int) else (fmag f:Int)
def fupF (f:Nat):Nat:=if nanB f then 9221120237041090560 else if f=9218868437227405312 then f else if zeroB f then 1 else if fneg f then f - 1 else f+1
set_option maxRecDepth 100000 in
theorem isNaN_any (f:Nat) (hf:f<18446744073709551616) (w:World) :
    Calls Tryz.prog 82 #[.int .u64 (f:Int)] w fun e w'=>e=.returned (.bool (nanB f))∧w=w':=by
  have ha:=andNot_sign hf
  have hm:=fmag_lt f
  unfold nanB
  generalize fmag f=m at *
  go_enter Tryz.func82,Tryz.ntmps82
  go_wp2
  go_ret
  exact ⟨ret_bool (by first | rfl | exact decide_eq_decide.2 (by omega) | (rw [Bool.eq_iff_iff];simp;try omega)),rfl⟩
set_option maxRecDepth 100000 in
theorem isInf_any (f:Nat) (hf:f<18446744073709551616) (w:World) :
    Calls Tryz.prog 96 #[.int .u64 (f:Int)] w fun e w'=>e=.returned (.bool (infB f))∧w=w':=by
  have ha:=andNot_sign hf
  have hm:=fmag_lt f
  unfold infB
  generalize fmag f=m at *
  go_enter Tryz.func96,Tryz.ntmps96
  go_wp2
  go_ret
  exact ⟨ret_bool (by first | rfl | exact decide_eq_decide.2 (by omega) | (rw [Bool.eq_iff_iff];simp;try omega)),rfl⟩
set_option maxRecDepth 100000 in
theorem isZero_any (f:Nat) (hf:f<18446744073709551616) (w:World) :
    Calls Tryz.prog 97 #[.int .u64 (f:Int)] w fun e w'=>e=.returned (.bool (zeroB f))∧w=w':=by
  have ha:=andNot_sign hf
  have hm:=fmag_lt f
  unfold zeroB
  generalize fmag f=m at *
  go_enter Tryz.func97,Tryz.ntmps97
  go_wp2
  go_ret
  exact ⟨ret_bool (by first | rfl | exact decide_eq_decide.2 (by omega) | (rw [Bool.eq_iff_iff];simp;try omega)),rfl⟩
set_option maxRecDepth 100000 in
theorem isNegative_any (f:Nat) (hf:f<18446744073709551616) (w:World) :
    Calls Tryz.prog 103 #[.int .u64 (f:Int)] w fun e w'=>e=.returned (.bool (fneg f))∧w=w':=by
  have ha:=and_sign hf
  cases hn:fneg f
  all_goals
    rw [hn] at ha
    clear hn
    unfold sgz at ha
    simp only [if_true,Bool.false_eq_true,if_false] at ha
    go_enter Tryz.func103,Tryz.ntmps103
    go_wp2
    go_ret
    exact ⟨ret_bool (by first | rfl | decide | simp),rfl⟩
set_option maxRecDepth 100000 in
theorem signOf_any (f:Nat) (hf:f<18446744073709551616) (w:World) :
    Calls Tryz.prog 93 #[.int .u64 (f:Int)] w fun e w'=>e=.returned (.int .u64 ((sgz (fneg f):Nat):Int))∧w=w':=by
  have ha:=and_sign hf
  generalize sgz (fneg f)=z at *
  go_enter Tryz.func93,Tryz.ntmps93
  go_wp2
  go_ret
  exact ⟨rfl,rfl⟩
set_option maxRecDepth 100000 in
theorem cancelled_any (mode:Int) (w:World) :
    Calls Tryz.prog 128 #[.int .i64 mode] w fun e w'=>e=.returned (.int .u64 ((cancel mode:Nat):Int))∧w=w':=by
  unfold cancel
  by_cases h:mode=1
  all_goals
    go_enter Tryz.func128,Tryz.ntmps128
    go_wp2
    go_ret
    exact ⟨ret_int (by first | rfl | (rw [if_pos h];rfl) | (rw [if_neg h];rfl)),rfl⟩
theorem fkind_cases (f:Nat):fmag f=0∧fkind f=0∨fmag f≠0∧fmag f<9218868437227405312∧fkind f=1∨fmag f=9218868437227405312∧fkind f=2∨9218868437227405312<fmag f∧fkind f=3:=by
  unfold fkind
  by_cases h0:fmag f=0
  · left;exact ⟨h0,if_pos h0⟩
  · right
    by_cases h1:fmag f<9218868437227405312
    · left;exact ⟨h0,h1,by rw [if_neg h0,if_pos h1]⟩
    · right
      by_cases h2:fmag f=9218868437227405312
      · left;exact ⟨h2,by rw [if_neg h0,if_neg h1,if_pos h2]⟩
      · right;exact ⟨by omega,by rw [if_neg h0,if_neg h1,if_neg h2]⟩
set_option maxRecDepth 100000 in
theorem kind_any (f:Nat) (hf:f<18446744073709551616) (w:World) :
    Calls Tryz.prog 136 #[.int .u64 (f:Int)] w fun e w'=>e=.returned (.int .i64 (fkind f))∧w=w':=by
  have ha:=andNot_sign hf
  have hc:=fkind_cases f
  generalize fkind f=k at *
  generalize fmag f=m at *
  rcases hc with ⟨h0,rfl⟩ | ⟨h0,h1,rfl⟩ | ⟨h0,rfl⟩ | ⟨h0,rfl⟩
  · have b0:((m:Int) == 0)=true:=by simp;omega
    clear h0
    go_enter Tryz.func136,Tryz.ntmps136
    go_wp2
    go_ret
    exact ⟨rfl,rfl⟩
  · have b0:((m:Int) == 0)=false:=by simp;omega
    have b1:(m:Int)<9218868437227405312:=by omega
    clear h0 h1
    go_enter Tryz.func136,Tryz.ntmps136
    go_wp2
    go_ret
    exact ⟨rfl,rfl⟩
  · have b0:((m:Int) == 0)=false:=by simp;omega
    have b1:¬ (m:Int)<9218868437227405312:=by omega
    have b2:((m:Int) == 9218868437227405312)=true:=by rw [beq_iff_eq];omega
    clear h0
    go_enter Tryz.func136,Tryz.ntmps136
    go_wp2
    go_ret
    exact ⟨rfl,rfl⟩
  · have b0:((m:Int) == 0)=false:=by simp;omega
    have b1:¬ (m:Int)<9218868437227405312:=by omega
    have b2:((m:Int) == 9218868437227405312)=false:=by rw [beq_eq_false_iff_ne];omega
    clear h0
    go_enter Tryz.func136,Tryz.ntmps136
    go_wp2
    go_ret
    exact ⟨rfl,rfl⟩
def finB (f:Nat):Bool:=decide (fmag f<9218868437227405312)
set_option maxRecDepth 100000 in
theorem isFinite_any (f:Nat) (hf:f<18446744073709551616) (w:World) :
    Calls Tryz.prog 37 #[.int .u64 (f:Int)] w fun e w'=>e=.returned (.bool (finB f))∧w=w':=by
  have ha:=andNot_sign hf
  have hb:finB f=decide ((fmag f:Int)<9218868437227405312):=decide_eq_decide.2 (by omega)
  rw [hb]
  clear hb
  generalize fmag f=m at *
  go_enter Tryz.func37,Tryz.ntmps37
  go_wp2
  go_ret
  exact ⟨rfl,rfl⟩
set_option maxRecDepth 100000 in
theorem negF_any (f:Nat) (hf:f<18446744073709551616) (w:World) :
    Calls Tryz.prog 43 #[.int .u64 (f:Int)] w fun e w'=>e=.returned (.int .u64 ((fnegF f:Nat):Int))∧w=w':=by
  have ha:=xor_sign hf
  unfold fnegF
  generalize sgz (!fneg f)+fmag f=v at *
  cases hn:nanB f
  all_goals
    have HN:=Lib.hid hn
    clear hn
    go_enter Tryz.func43,Tryz.ntmps43
    go_wp2_with (go_at_call 82;refine (isNaN_any f hf _).mono ?_;rw [HN.out];rintro e w' ⟨rfl,rfl⟩)
    go_ret
    exact ⟨rfl,rfl⟩
set_option maxRecDepth 100000 in
theorem absF_any (f:Nat) (hf:f<18446744073709551616) (w:World) :
    Calls Tryz.prog 80 #[.int .u64 (f:Int)] w fun e w'=>e=.returned (.int .u64 ((fabsF f:Nat):Int))∧w=w':=by
  have ha:=andNot_sign hf
  unfold fabsF
  generalize fmag f=v at *
  cases hn:nanB f
  all_goals
    have HN:=Lib.hid hn
    clear hn
    go_enter Tryz.func80,Tryz.ntmps80
    go_wp2_with (go_at_call 82;refine (isNaN_any f hf _).mono ?_;rw [HN.out];rintro e w' ⟨rfl,rfl⟩)
    go_ret
    exact ⟨rfl,rfl⟩
set_option maxRecDepth 100000 in
theorem rank_any (f:Nat) (hf:f<18446744073709551616) (w:World) :
    Calls Tryz.prog 84 #[.int .u64 (f:Int)] w fun e w'=>e=.returned (.int .i64 (frank f))∧w=w':=by
  have ha:=andNot_sign hf
  have hm:=fmag_lt f
  unfold frank
  generalize fmag f=m at *
  cases hn:fneg f
  all_goals
    have HN:=Lib.hid hn
    clear hn
    go_enter Tryz.func84,Tryz.ntmps84
    go_wp2_with (go_at_call 103;refine (isNegative_any f hf _).mono ?_;rw [HN.out];rintro e w' ⟨rfl,rfl⟩)
    go_ret
    exact ⟨ret_int (by first | rfl | simp | (simp;omega)),rfl⟩
theorem fnegF_lt {f:Nat}:fnegF f<18446744073709551616:=by
  unfold fnegF
  have:=fmag_lt f
  have:=sgz_le (!fneg f)
  split <;> omega
end Go.Proofs.YtkomhemjodbkpaaGreatDoor
