import Derived.Test.YtkomhemjodbkpaaGreatDoorIExLawU14
import Derived.Test.YtkomhemjodbkpaaGreatDoorIExLawU7
import Derived.Deep.CutRange
import Derived.Deep.CutBlock
namespace Go.Proofs.YtkomhemjodbkpaaGreatDoor
open Go.RowKit
theorem and_word {z:Nat} (h:z<18446744073709551616):bits BinOp.and IntKind.u64 (z:Int) 4294967295=((z % 4294967296:Nat):Int):=by
  have:=bits_and_u64_nat z 4294967295 h (by omega)
  rw [show (4294967295:Nat)=2^32 - 1 from rfl,Nat.and_two_pow_sub_one_eq_mod] at this
  exact this
set_option maxRecDepth 100000 in
set_option maxHeartbeats 4000000 in
theorem div64_any (hi lo y k:Nat) (hlt:hi<y) (hz:hi≠0) (hl:lo<18446744073709551616) (hy0:2^(63 - k)≤y) (hy1:y<2^(64 - k)) (hk:k≤63) (w:World) :
    Calls Tryz.prog 140 #[.int .u64 (hi:Int),.int .u64 (lo:Int),.int .u64 (y:Int)] w fun r w'=>r=.returned (.tuple #[.int .u64 (((hi*18446744073709551616+lo) / y:Nat):Int),.int .u64 (((hi*18446744073709551616+lo) % y:Nat):Int)])∧w=w':=by
  obtain ⟨na,nb,nc,nd⟩:=norm_words hl (show k≤64 by omega) (Nat.lt_trans hlt hy1)
  have hp:0<2^k:=Nat.pow_pos (by omega)
  have hD0:9223372036854775808≤y*2^k:=by
    have:=Nat.mul_le_mul_right (2^k) hy0
    rwa [←Nat.pow_add,show 63 - k+k=63 by omega] at this
  have hD1:y*2^k<18446744073709551616:=by
    have:=Nat.mul_lt_mul_of_pos_right hy1 hp
    rwa [←Nat.pow_add,show 64 - k+k=64 by omega] at this
  have hU:hi*2^k+lo / 2^(64 - k)<y*2^k:=by
    have h1:(hi*18446744073709551616+lo)*2^k<(y*18446744073709551616)*2^k:=Nat.mul_lt_mul_of_pos_right (by omega) hp
    rw [Nat.mul_right_comm y] at h1
    omega
  have CL:=Lib.hid (lz_any hy0 hy1 hk)
  have hs0:IntKind.u64.wrap ((y:Int)*2^k)=((y*2^k:Nat):Int):=by rw [←cast_mulpow];exact wrap_nat hD1
  have hs1:IntKind.u64.wrap ((hi:Int)*2^k)=((hi*2^k:Nat):Int):=by rw [←cast_mulpow];exact wrap_nat nd
  have hs2:(lo:Int) / 2^(64 - k)=((lo / 2^(64 - k):Nat):Int):=(cast_divpow _ _).symm
  have hs3:=or_add nc nb
  have hs4:IntKind.u64.wrap ((lo:Int)*2^k)=((lo*2^k % 18446744073709551616:Nat):Int):=by rw [IntKind.wrap_u64];exact (cast_modpow lo k 18446744073709551616).symm
  have hs5:(lo:Int)*2^k % 18446744073709551616=((lo*2^k % 18446744073709551616:Nat):Int):=(cast_modpow lo k 18446744073709551616).symm
  have hZ:lo*2^k % 18446744073709551616<18446744073709551616:=Nat.mod_lt _ (by omega)
  have hw1:=and_word hD1
  have hw2:=and_word hZ
  have hDk:=Lib.hid (show ((y*2^k:Nat):Int)=(y:Int)*((2^k:Nat):Int) from Int.natCast_mul _ _)
  have hT:=Lib.hid na
  have hPk:=Lib.hid (show ((2^k:Nat):Int)=2^k from cast_pow2 k)
  have HP:=Lib.hid hp
  generalize hi*2^k+lo / 2^(64 - k)=U at *
  generalize hi*2^k=A at *
  generalize lo / 2^(64 - k)=X at *
  generalize lo*2^k % 18446744073709551616=Z at *
  generalize y*2^k=D at *
  clear na nb nc nd hp hy0 hy1
  have hyz:((y:Int) == 0)=false:=by rw [beq_eq_false_iff_ne];omega
  have hhz:((hi:Int) == 0)=false:=by rw [beq_eq_false_iff_ne];omega
  have k0:(0:Int)≤(k:Int):=by omega
  have k1:(0:Int)≤64 - (k:Int):=by omega
  have k2:(k:Int)≤64:=by omega
  go_enter Tryz.func140,Tryz.ntmps140
  go_upto_region 7 with fail
  go_upto_block 0 with (refine (CL.out _).mono ?_;rintro e w' ⟨rfl,rfl⟩)
  have ha0:2147483648≤(D:Int) / 4294967296:=by omega
  have ha1:(D:Int) / 4294967296<4294967296:=by omega
  have hb0:0≤(D:Int) % 4294967296:=by omega
  have hb1:(D:Int) % 4294967296<4294967296:=by omega
  have hDab:(D:Int)=(D:Int) / 4294967296*4294967296+(D:Int) % 4294967296:=by omega
  have hd0:0≤(Z:Int) / 4294967296∧(Z:Int) / 4294967296<4294967296:=by omega
  have he0:0≤(Z:Int) % 4294967296∧(Z:Int) % 4294967296<4294967296:=by omega
  have hZab:(Z:Int)=(Z:Int) / 4294967296*4294967296+(Z:Int) % 4294967296:=by omega
  have hUD:(U:Int)<(D:Int):=by omega
  have hU0:0≤(U:Int):=by omega
  have hDmax:(D:Int)≤18446744073709551615:=by omega
  obtain ⟨a,ha⟩:∃ a,(D:Int) / 4294967296=a:=⟨_,rfl⟩
  obtain ⟨b,hb⟩:∃ b,(D:Int) % 4294967296=b:=⟨_,rfl⟩
  obtain ⟨c,hc⟩:∃ c,(Z:Int) / 4294967296=c:=⟨_,rfl⟩
  obtain ⟨d,hd⟩:∃ d,(Z:Int) % 4294967296=d:=⟨_,rfl⟩
  obtain ⟨u,hu⟩:∃ u:Int,(U:Int)=u:=⟨_,rfl⟩
  obtain ⟨e,he⟩:∃ e:Int,(D:Int)=e:=⟨_,rfl⟩
  rw [ha,hb] at hDab
  rw [hc,hd] at hZab
  rw [ha] at ha0 ha1
  rw [hb] at hb0 hb1
  rw [hc] at hd0
  rw [hd] at he0
  rw [ha,hb,hc,hd]
  clear ha hb hc hd
  rw [hu] at hUD hU0
  rw [he] at hDab hUD hDmax
  rw [hu,he]
  have D1:Dig u a b c:=⟨ha0,ha1,hb0,hb1,hU0,by omega,hd0.1,hd0.2⟩
  have DG:=Lib.hid D1
  obtain ⟨g0,g1,g2,g3,g4,g5⟩:=D1.start
  have q0:=D1.q0
  have q1:=D1.q1
  obtain ⟨Q,hQ⟩:∃ Q,digQ u a b c=Q:=⟨_,rfl⟩
  rw [hQ] at g0 q0 q1
  obtain ⟨R,hR⟩:∃ R,digR u a b c=R:=⟨_,rfl⟩
  obtain ⟨r1,r2,r3⟩:=D1.rest e hDab
  rw [hQ,hR] at r1
  rw [hR] at r2 r3
  have HQ:=Lib.hid hQ
  have HR:=Lib.hid hR
  have D2:Dig R a b d:=⟨ha0,ha1,hb0,hb1,r2,by omega,he0.1,he0.2⟩
  have DG2:=Lib.hid D2
  obtain ⟨j0,j1,j2,j3,j4,j5⟩:=D2.start
  have s0:=D2.q0
  have s1:=D2.q1
  obtain ⟨S,hS⟩:∃ S,digQ R a b d=S:=⟨_,rfl⟩
  rw [hS] at j0 s0 s1
  obtain ⟨V,hV⟩:∃ V,digR R a b d=V:=⟨_,rfl⟩
  obtain ⟨v1,v2,v3⟩:=D2.rest e hDab
  rw [hS,hV] at v1
  rw [hV] at v2 v3
  have HS:=Lib.hid hS
  have HV:=Lib.hid hV
  have FIN:=Lib.hid (dig_two (T:=((hi*18446744073709551616+lo:Nat):Int)) (S:=((2^k:Nat):Int)) (y:=(y:Int)) (D:=e) (u:=u) (d1:=c) (d0:=d) (Q1:=Q) (R1:=R) (Q0:=S) (R0:=V)
    (Int.ofNat_lt.2 HP.out) (by omega) (by rw [←he];exact hDk.out)
    (by
      have h:=congrArg (Nat.cast (R:=Int)) hT.out
      rw [Int.natCast_mul (hi*18446744073709551616+lo)] at h
      rw [←h,Int.natCast_add,Int.natCast_mul,hu,hZab]
      omega)
    (by rw [←hQ,digQ,hDab]) (by rw [←hR,digR,hDab]) (by rw [←hS,digQ,hDab]) (by rw [←hV,digR,hDab]))
  clear hQ hR hS hV D1 D2 hDk hT HP hw1 hw2 hs0 hs1 hs2 hs3 hs4 hs5 CL
  have w1:IntKind.u64.wrap (u / a)=u / a:=by rw [IntKind.wrap_u64];omega
  have w2:IntKind.u64.wrap (u - IntKind.u64.wrap (u / a*a))=u % a:=by
    rw [←g3]
    have:0≤u / a*a:=Int.mul_nonneg g2 (by omega)
    rw [IntKind.wrap_u64,IntKind.wrap_u64]
    omega
  rw [w1,w2]
  clear hDab hZab w1 w2
  go_cut [15,16] from 67 to 85 (fun p r wx=>∃ q:Int,p=.int .u64 Q∧r=.int .u64 q∧wx=w)
  case first =>
    go_wp2
    go_loopw [15,16] (fun p r wr=>∃ q:Int,p=.int .u64 q∧r=.int .u64 (u - q*a)∧Q≤q∧q≤4294967297∧0≤u - q*a∧u - q*a<4294967296∧wr=w) (fun p _ _=>(intOf p).toNat)
    case atStart=>exact ⟨u / a,rfl,by rw [g3],by omega,by omega,by omega,by omega,rfl⟩
    case round =>
      obtain ⟨q,rfl,rfl,i0,i1,i2,i3,rfl⟩:=hrel
      have ht:=DG.out.test q _ rfl
      have hp:=fun h=>DG.out.prod (q:=q) (by omega) h
      have hs:=DG.out.stop (q - 1) (u - q*a+a) (dig_next rfl) (by omega)
      have hn:=dig_next (u:=u) (q:=q) (a:=a) rfl
      rw [HQ.out] at ht hs
      obtain ⟨z,hz⟩:∃ z,u - q*a=z:=⟨_,rfl⟩
      rw [hz] at i2 i3 ht hs hn ⊢
      have HZ:=Lib.hid hz
      have HN:=Lib.hid hn
      clear hz hn
      have HS2:=Lib.hid hs;clear hs
      by_cases hq:4294967296≤q
      · have hlt2:=Lib.hid (show Q<q by omega)
        have hq1:1≤q:=by omega
        clear ht hp
        by_cases hbr:4294967296≤z+a
        · have hQq:=Lib.hid (show q - 1=Q by have:=HS2.out hbr;have:=hlt2.out;omega)
          go_wp2
          go_meet
          exact ⟨_,by rw [hQq.out],rfl,by first | rfl | trivial⟩
        · go_wp2
          go_roundw
          case rel=>exact ⟨q - 1,rfl,by rw [HN.out],by have:=hlt2.out;omega,by omega,by rw [←HN.out];omega,by rw [←HN.out];omega,by first | rfl | trivial⟩
          case measure=>simp [intOf] <;> omega
      · obtain ⟨p0,p1⟩:=hp (by omega)
        clear hp
        obtain ⟨m,hm⟩:∃ m,q*b=m:=⟨_,rfl⟩
        rw [hm] at p0 p1 ht
        by_cases htt:4294967296*z+c<m
        · have hlt2:=Lib.hid (ht.1 htt)
          have hq1:1≤q:=by have:=hlt2.out;omega
          clear ht
          by_cases hbr:4294967296≤z+a
          · have hQq:=Lib.hid (show q - 1=Q by have:=HS2.out hbr;have:=hlt2.out;omega)
            go_wp2
            go_meet
            exact ⟨_,by rw [hQq.out],rfl,by first | rfl | trivial⟩
          · go_wp2
            go_roundw
            case rel=>exact ⟨q - 1,rfl,by rw [HN.out],by have:=hlt2.out;omega,by omega,by rw [←HN.out];omega,by rw [←HN.out];omega,by first | rfl | trivial⟩
            case measure=>simp [intOf] <;> omega
        · have hQq:=Lib.hid (show q=Q by have:=fun h=>htt (ht.2 h);omega)
          clear ht
          go_wp2
          go_meet
          exact ⟨_,by rw [hQq.out],rfl,by first | rfl | trivial⟩
  case rest =>
    obtain ⟨q9,rfl,rfl,hwc⟩:=hcut
    rw [hwc]
    clear hwc
    have x1:IntKind.u64.wrap (R / a)=R / a:=by rw [IntKind.wrap_u64];omega
    have x2:IntKind.u64.wrap (R - IntKind.u64.wrap (R / a*a))=R % a:=by
      rw [←j3]
      have:0≤R / a*a:=Int.mul_nonneg j2 (by omega)
      rw [IntKind.wrap_u64,IntKind.wrap_u64]
      omega
    go_upto_block 2 with fail
    clear x1 x2
    go_cut [18,16] from 102 to 120 (fun p r wx=>∃ q:Int,p=.int .u64 S∧r=.int .u64 q∧wx=w)
    case first =>
      go_wp2
      go_loopw [18,16] (fun p r wr=>∃ q:Int,p=.int .u64 q∧r=.int .u64 (R - q*a)∧S≤q∧q≤4294967297∧0≤R - q*a∧R - q*a<4294967296∧wr=w) (fun p _ _=>(intOf p).toNat)
      case atStart=>exact ⟨R / a,rfl,by rw [j3],by omega,by omega,by omega,by omega,rfl⟩
      case round =>
        obtain ⟨q,rfl,rfl,i0,i1,i2,i3,rfl⟩:=hrel
        have ht:=DG2.out.test q _ rfl
        have hp:=fun h=>DG2.out.prod (q:=q) (by omega) h
        have hs:=DG2.out.stop (q - 1) (R - q*a+a) (dig_next rfl) (by omega)
        have hn:=dig_next (u:=R) (q:=q) (a:=a) rfl
        rw [HS.out] at ht hs
        obtain ⟨z,hz⟩:∃ z,R - q*a=z:=⟨_,rfl⟩
        rw [hz] at i2 i3 ht hs hn ⊢
        have HZ:=Lib.hid hz
        have HN:=Lib.hid hn
        clear hz hn
        have HS2:=Lib.hid hs;clear hs
        by_cases hq:4294967296≤q
        · have hlt2:=Lib.hid (show S<q by omega)
          have hq1:1≤q:=by omega
          clear ht hp
          by_cases hbr:4294967296≤z+a
          · have hQq:=Lib.hid (show q - 1=S by have:=HS2.out hbr;have:=hlt2.out;omega)
            go_wp2
            go_meet
            exact ⟨_,by rw [hQq.out],rfl,by first | rfl | trivial⟩
          · go_wp2
            go_roundw
            case rel=>exact ⟨q - 1,rfl,by rw [HN.out],by have:=hlt2.out;omega,by omega,by rw [←HN.out];omega,by rw [←HN.out];omega,by first | rfl | trivial⟩
            case measure=>simp [intOf] <;> omega
        · obtain ⟨p0,p1⟩:=hp (by omega)
          clear hp
          obtain ⟨m,hm⟩:∃ m,q*b=m:=⟨_,rfl⟩
          rw [hm] at p0 p1 ht
          by_cases htt:4294967296*z+d<m
          · have hlt2:=Lib.hid (ht.1 htt)
            have hq1:1≤q:=by have:=hlt2.out;omega
            clear ht
            by_cases hbr:4294967296≤z+a
            · have hQq:=Lib.hid (show q - 1=S by have:=HS2.out hbr;have:=hlt2.out;omega)
              go_wp2
              go_meet
              exact ⟨_,by rw [hQq.out],rfl,by first | rfl | trivial⟩
            · go_wp2
              go_roundw
              case rel=>exact ⟨q - 1,rfl,by rw [HN.out],by have:=hlt2.out;omega,by omega,by rw [←HN.out];omega,by rw [←HN.out];omega,by first | rfl | trivial⟩
              case measure=>simp [intOf] <;> omega
          · have hQq:=Lib.hid (show q=S by have:=fun h=>htt (ht.2 h);omega)
            clear ht
            go_wp2
            go_meet
            exact ⟨_,by rw [hQq.out],rfl,by first | rfl | trivial⟩
    case rest =>
      obtain ⟨q9,rfl,rfl,hwc⟩:=hcut
      rw [hwc]
      clear hwc
      have hf1:Q*4294967296+S=(((hi*18446744073709551616+lo) / y:Nat):Int):=by rw [FIN.out.1];exact (Int.natCast_ediv _ _).symm
      have hf2:V / 2^k=(((hi*18446744073709551616+lo) % y:Nat):Int):=by rw [←hPk.out,FIN.out.2];exact (Int.natCast_emod _ _).symm
      obtain ⟨F1,hF1⟩:∃ F1,(hi*18446744073709551616+lo) / y=F1:=⟨_,rfl⟩
      obtain ⟨F2,hF2⟩:∃ F2,(hi*18446744073709551616+lo) % y=F2:=⟨_,rfl⟩
      rw [hF1] at hf1
      rw [hF2] at hf2
      have HF1:=Lib.hid hF1
      have HF2:=Lib.hid hF2
      clear hF1 hF2
      go_wp2
      go_ret2
      exact ⟨by rw [HF1.out,HF2.out];rfl,rfl⟩
open Go.RowKit
theorem div64_norm (hi lo y:Nat) (hlt:hi<y) (hl:lo<18446744073709551616) (hy0:9223372036854775808≤y) (hy1:y<18446744073709551616) (w:World) :
    Calls Tryz.prog 140 #[.int .u64 (hi:Int),.int .u64 (lo:Int),.int .u64 (y:Int)] w fun r w'=>r=.returned (.tuple #[.int .u64 (((hi*18446744073709551616+lo) / y:Nat):Int),.int .u64 (((hi*18446744073709551616+lo) % y:Nat):Int)])∧Ext w w':=by
  by_cases hz:hi=0
  · subst hz
    refine (div64_zero lo y hl hy1 (by omega) w).mono fun r w' ⟨hr,hw⟩=>⟨?_,hw⟩
    rw [hr,Nat.zero_mul,Nat.zero_add]
  · exact (div64_any hi lo y 0 hlt hz hl hy0 hy1 (by omega) w).mono fun r w' ⟨hr,hw⟩=>⟨hr,by rw [hw];exact Below.refl _ _⟩
set_option maxRecDepth 100000 in
theorem fnormal_word (lo:Nat) (e:Int) (t:Bool) (hlo:lo<18446744073709551616) (h0:lo≠0) (he0 : -1000000000000≤e) (he1:e≤1000000000000) (w:World) :
    Calls Tryz.prog 139 #[.agg #[.int .u64 0,.int .u64 (lo:Int),.int .i64 e,.bool t]] w fun r w'=>∃ H k:Nat,r=.returned (.agg #[.int .u64 (H:Int),.int .u64 0,.int .i64 (e - k),.bool t]) ∧
      H*18446744073709551616=lo*2^k∧9223372036854775808≤H∧H<18446744073709551616∧k≤127∧Ext w w':=by
  refine (fnormal_any 0 lo e t (by omega) hlo (by omega) he0 he1 w).mono fun r w' ⟨H,L,k,hr,h1,h2,h3,h4,h5,hw⟩=>?_
  rw [Nat.zero_mul,Nat.zero_add] at h1
  obtain rfl:=low_zero h1 h2 hlo h4
  rw [Nat.add_zero] at h1
  exact ⟨H,k,hr,h1,h2,h3,h5,hw⟩
structure QuF (hx lx ly X1 X0 i Y1 j:Nat):Prop where
  ex:X1*18446744073709551616+X0=(hx*18446744073709551616+lx)*2^i
  ey:Y1*18446744073709551616=ly*2^j
  x0:9223372036854775808≤X1
  x1:X1<18446744073709551616
  x2:X0<18446744073709551616
  y0:9223372036854775808≤Y1
  y1:Y1<18446744073709551616
  i1:i≤127
  j1:j≤127
set_option maxRecDepth 100000 in
set_option maxHeartbeats 8000000 in
theorem fquot_any (hx lx ly:Nat) (ex ey:Int) (tx:Bool) (h1:hx<18446744073709551616) (h2:lx<18446744073709551616) (h3:hx*18446744073709551616+lx≠0) (h4:ly<18446744073709551616) (h5:ly≠0) (ex0 : -1000000000≤ex) (ex1:ex≤1000000000) (ey0 : -1000000000≤ey) (ey1:ey≤1000000000) (w:World) :
    Calls Tryz.prog 98 #[.agg #[.int .u64 (hx:Int),.int .u64 (lx:Int),.int .i64 ex,.bool tx],.agg #[.int .u64 0,.int .u64 (ly:Int),.int .i64 ey,.bool false]] w fun r w'=>∃ X1 X0 i Y1 j:Nat,QuF hx lx ly X1 X0 i Y1 j ∧
      r=.returned (.agg #[.int .u64 ((X1 / Y1:Nat):Int),.int .u64 (((X1 % Y1*18446744073709551616+X0) / Y1:Nat):Int),.int .i64 (ex - i - (ey - j) - 64),.bool (tx||decide ((X1 % Y1*18446744073709551616+X0) % Y1≠0))])∧Ext w w':=by
  have CX:=Lib.hid (fnormal_any hx lx ex tx h1 h2 h3 (by omega) (by omega))
  have CY:=Lib.hid (fnormal_word ly ey false h4 h5 (by omega) (by omega))
  clear h1 h2 h3 h4 h5
  go_enter Tryz.func98,Tryz.ntmps98
  go_upto_region 1 with fail
  obtain ⟨W,hW,hB,hbx,hby,hbr,hz⟩:=boxes_nnn w hx lx ex tx 0 ly ey false 0 0 0 false
  rw [←hW]
  clear hW
  generalize hBe:w.heap.size=B at *
  have HBe:=Lib.hid hBe
  clear hBe
  go_cut [] from 8 (fun wx=>∃ X1 X0 i Y1 j:Nat,QuF hx lx ly X1 X0 i Y1 j∧NBox wx B X1 X0 (ex - i) tx∧NBox wx (B+1) Y1 0 (ey - j) false∧NBox wx (B+1+1) 0 0 0 false∧Below B w wx)
  case first =>
    have k0:=hbx.c0
    have k1:=hbx.c1
    have k2:=hbx.c2
    have k3:=hbx.c3
    have l0:=hby.c0
    have l1:=hby.c1
    have l2:=hby.c2
    have l3:=hby.c3
    have TAG1:=Lib.hid True.intro
    go_region_with (first
      | (go_at_call 139;clear TAG1;(with_reducible refine (CX.out _).mono ?_);rintro r1 w1 ⟨X1,X0,i,rfl,e1,e2,e3,e4,e5,hw1⟩;have E1:=Lib.hid (And.intro e1 (And.intro e2 (And.intro e3 (And.intro e4 e5))));clear e1 e2 e3 e4 e5;have ex1:Below W.heap.size W w1:=(Below.refl _ _).drew.trans hw1;have fb:=hby.below ex1;have m0:=fb.c0;have m1:=fb.c1;have m2:=fb.c2;have m3:=fb.c3)
      | (go_at_call 139;(with_reducible refine (CY.out _).mono ?_);rintro r2 w2 ⟨Y1,j,rfl,e1,e2,e3,e4,hw2⟩;have E2:=Lib.hid (And.intro e1 (And.intro e2 (And.intro e3 e4)));clear e1 e2 e3 e4;clear m0 m1 m2 m3;have ex2:Below W.heap.size W w2:=ex1.trans (Below.mono hw2 ex1.size);have fa:=hbx.below ex2;have fb2:=hby.below ex2;have fr2:=hbr.below ex2;have a0:=fa.c0;have a1:=fa.c1;have a2:=fa.c2;have a3:=fa.c3;have b0:=fb2.c0;have b1:=fb2.c1;have b2:=fb2.c2;have b3:=fb2.c3;have g0:=fa.f 0;have g1:=fa.f 1;have g2:=fa.f 2;have g3:=fa.f 3;have n0:=fb2.f 0;have n1:=fb2.f 1;have n2:=fb2.f 2;have n3:=fb2.f 3))
    all_goals
      go_wp2
      go_meet
    all_goals
      clear a0 a1 a2 a3 b0 b1 b2 b3 g0 g1 g2 g3 n0 n1 n2 n3 k0 k1 k2 k3 l0 l1 l2 l3
      obtain ⟨Z,hZ,z1,z2,z3⟩:=two_nums fa fb2 (hB.trans (Below.mono ex2 (by omega))) X1 X0 (ex - i) Y1 0 (ey - j) tx false
      rw [hZ]
      refine ⟨X1,X0,i,Y1,j,⟨E1.out.1,E2.out.1,E1.out.2.1,E1.out.2.2.1,E1.out.2.2.2.1,E2.out.2.1,E2.out.2.2.1,E1.out.2.2.2.2,E2.out.2.2.2⟩,z1,z2,?_,z3⟩
      rw [←hZ]
      exact (fr2.only (only_nset4 _ _ _ _ _ _) (by omega)).only (only_nset4 _ _ _ _ _ _) (by omega)
  case rest =>
    obtain ⟨X1,X0,i,Y1,j,qf,xb,yb,rb,hb⟩:=hcut
    clear hbx hby hbr hB hz CX CY
    have D1:=Lib.hid (fun w=>div64_norm 0 X1 Y1 (by have:=qf.y0;omega) qf.x1 qf.y0 qf.y1 w)
    have hr1:X1 % Y1<Y1:=Nat.mod_lt _ (by have:=qf.y0;omega)
    have D2:=Lib.hid (fun w=>div64_norm (X1 % Y1) X0 Y1 hr1 qf.x2 qf.y0 qf.y1 w)
    rw [Nat.zero_mul,Nat.zero_add] at D1
    have HQF:=Lib.hid qf
    have hi1:=qf.i1
    have hj1:=qf.j1
    clear qf hr1
    obtain ⟨Q1,hQ1⟩:∃ n,X1 / Y1=n:=⟨_,rfl⟩
    obtain ⟨R1,hR1⟩:∃ n,X1 % Y1=n:=⟨_,rfl⟩
    obtain ⟨Q0,hQ0⟩:∃ n,(R1*18446744073709551616+X0) / Y1=n:=⟨_,rfl⟩
    obtain ⟨R0,hR0⟩:∃ n,(R1*18446744073709551616+X0) % Y1=n:=⟨_,rfl⟩
    rw [hQ1,hR1] at D1
    rw [hR1,hQ0,hR0] at D2
    have HQR:=Lib.hid (And.intro hQ1 (And.intro hR1 (And.intro hQ0 hR0)))
    clear hQ1 hR1 hQ0 hR0
    have c0:=xb.c0
    have c1:=xb.c1
    have c2:=xb.c2
    have c3:=xb.c3
    have d0:=yb.c0
    have d1:=yb.c1
    have d2:=yb.c2
    have HBX:=Lib.hid (And.intro xb (And.intro yb (And.intro rb hb)))
    clear xb yb rb hb
    go_wp2_with fail
    refine (D1.out _).mono ?_
    rintro r w1 ⟨rfl,hE⟩
    have xb:=HBX.out.1.below hE
    have yb:=HBX.out.2.1.below hE
    have rb:=HBX.out.2.2.1.below hE
    have hb:=HBX.out.2.2.2.trans (Below.mono hE (by have:=HBX.out.1.lt;omega))
    clear c0 c1 c2 c3 d0 d1 d2 hE
    have c0:=xb.c0
    have c1:=xb.c1
    have c2:=xb.c2
    have c3:=xb.c3
    have d0:=yb.c0
    have d1:=yb.c1
    have d2:=yb.c2
    have HBX:=Lib.hid (And.intro xb (And.intro yb (And.intro rb hb)))
    clear xb yb rb hb
    go_wp2_with fail
    refine (D2.out _).mono ?_
    rintro r w2 ⟨rfl,hE⟩
    have xb:=HBX.out.1.below hE
    have yb:=HBX.out.2.1.below hE
    have rb:=HBX.out.2.2.1.below hE
    have hb:=HBX.out.2.2.2.trans (Below.mono hE (by have:=HBX.out.1.lt;omega))
    clear c0 c1 c2 c3 d0 d1 d2 hE
    have c0:=xb.c0
    have c1:=xb.c1
    have c2:=xb.c2
    have c3:=xb.c3
    have d0:=yb.c0
    have d1:=yb.c1
    have d2:=yb.c2
    have q0:=rb.c0
    have q1:=rb.c1
    have q2:=rb.c2
    have q3:=rb.c3
    have p0:=rb.f 0
    have p1:=rb.f 1
    have p2:=rb.f 2
    have p3:=rb.f 3
    obtain ⟨E,hE⟩:∃ E,ex - i - (ey - j) - 64=E:=⟨_,rfl⟩
    have hE0 : -1000000500*2≤E∧E≤1000000500*2:=by omega
    cases tx with
    | true =>
      have z:=rb.stored Q1 Q0 E true
      have z0:=z.c0
      have z1:=z.c1
      have z2:=z.c2
      have z3:=z.c3
      have B1:=Lib.hid (hb.trans ((only_nset4 w2 (B+1+1) (.int .u64 Q1) (.int .u64 Q0) (.int .i64 E) (.bool true)).below (B:=B) (by omega)))
      have HE:=Lib.hid hE
      clear z xb yb rb hb HBX
      go_wp2
      refine bodyPost_ret (v:=.agg #[.int .u64 Q1,.int .u64 Q0,.int .i64 E,.bool true]) (by simp [results,Tryz.results98,go_sem,z0,z1,z2,z3]) rfl ⟨X1,X0,i,Y1,j,HQF.out,?_,?_⟩
      · obtain ⟨f1,f2,f3,f4⟩:=HQR.out
        rw [f1,f2,f3,f4,HE.out]
        rfl
      · show Below _ _ _
        rw [HBe.out]
        exact B1.out
    | false =>
      by_cases hR:R0=0
      · have hr:((R0:Int) != 0)=false:=by simp [hR]
        have HRR:=Lib.hid (show decide (R0≠0)=false by simp [hR])
        clear hR
        have z:=rb.stored Q1 Q0 E false
        have z0:=z.c0
        have z1:=z.c1
        have z2:=z.c2
        have z3:=z.c3
        have B1:=Lib.hid (hb.trans ((only_nset4 w2 (B+1+1) (.int .u64 Q1) (.int .u64 Q0) (.int .i64 E) (.bool false)).below (B:=B) (by omega)))
        have HE:=Lib.hid hE
        clear z xb yb rb hb HBX
        go_wp2
        refine bodyPost_ret (v:=.agg #[.int .u64 Q1,.int .u64 Q0,.int .i64 E,.bool false]) (by simp [results,Tryz.results98,go_sem,z0,z1,z2,z3]) rfl ⟨X1,X0,i,Y1,j,HQF.out,?_,?_⟩
        · obtain ⟨f1,f2,f3,f4⟩:=HQR.out
          rw [f1,f2,f3,f4,HE.out,HRR.out]
          rfl
        · show Below _ _ _
          rw [HBe.out]
          exact B1.out
      · have hr:((R0:Int) != 0)=true:=by simp;omega
        have HRR:=Lib.hid (show decide (R0≠0)=true by simp [hR])
        clear hR
        have z:=rb.stored Q1 Q0 E true
        have z0:=z.c0
        have z1:=z.c1
        have z2:=z.c2
        have z3:=z.c3
        have B1:=Lib.hid (hb.trans ((only_nset4 w2 (B+1+1) (.int .u64 Q1) (.int .u64 Q0) (.int .i64 E) (.bool true)).below (B:=B) (by omega)))
        have HE:=Lib.hid hE
        clear z xb yb rb hb HBX
        go_wp2
        refine bodyPost_ret (v:=.agg #[.int .u64 Q1,.int .u64 Q0,.int .i64 E,.bool true]) (by simp [results,Tryz.results98,go_sem,z0,z1,z2,z3]) rfl ⟨X1,X0,i,Y1,j,HQF.out,?_,?_⟩
        · obtain ⟨f1,f2,f3,f4⟩:=HQR.out
          rw [f1,f2,f3,f4,HE.out,HRR.out]
          rfl
        · show Below _ _ _
          rw [HBe.out]
          exact B1.out
end Go.Proofs.YtkomhemjodbkpaaGreatDoor
