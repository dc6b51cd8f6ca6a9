import Derived.Test.YtkomhemjodbkpaaGreatDoorIExLawU15
namespace Go.Proofs.YtkomhemjodbkpaaGreatDoor
open Go.RowKit
def quoX (N:Nat):Nat:=N*2^(127 - Nat.log2 N)
def quoY (D:Nat):Nat:=D*2^(63 - Nat.log2 D)
def quoE (N D:Nat) (ex ey:Int):Int:=ex - ((127 - Nat.log2 N:Nat):Int) - (ey - ((127 - Nat.log2 D:Nat):Int)) - 64
def fdivF (a b:Nat) (mode:Int):Nat :=
  if nanB a||nanB b||infB a&&infB b||zeroB a&&zeroB b then 9221120237041090560
  else if infB a||zeroB b then 9218868437227405312+sgz (fneg a != fneg b)
  else if zeroB a||infB b then sgz (fneg a != fneg b)
  else sgz (fneg a != fneg b)+fla (fneg a != fneg b) (quoX (sig a) / quoY (sig b)) (quoE (sig a) (sig b) (-1074+(fsh a:Int)) (-1074+(fsh b:Int))) (decide (quoX (sig a) % quoY (sig b)≠0)) mode
theorem shift_unique {N i:Nat} (h0:N≠0) (h1:2^127≤N*2^i) (h2:N*2^i<2^128):i=127 - Nat.log2 N:=by
  have h3:=log2_of h1 h2
  rw [log2_shift h0] at h3
  omega
theorem qu_spec {N D X1 X0 i Y1 j:Nat} (q:QuF 0 N D X1 X0 i Y1 j) (hN:N≠0) (hD:D≠0) (hD1:D<18446744073709551616) :
    X1 / Y1*18446744073709551616+(X1 % Y1*18446744073709551616+X0) / Y1=quoX N / quoY D∧(X1 % Y1*18446744073709551616+X0) % Y1=quoX N % quoY D∧i=127 - Nat.log2 N∧j=127 - Nat.log2 D:=by
  have hx:=q.ex
  rw [Nat.zero_mul,Nat.zero_add] at hx
  have x0:=q.x0;have x1:=q.x1;have x2:=q.x2;have y0:=q.y0;have y1:=q.y1
  have e1:(2:Nat)^127=9223372036854775808*18446744073709551616:=by decide
  have e2:(2:Nat)^128=18446744073709551616*18446744073709551616:=by decide
  have hi:=shift_unique (N:=N) (i:=i) hN (by rw [←hx,e1];omega) (by rw [←hx,e2];omega)
  have hj:=shift_unique (N:=D) (i:=j) hD (by rw [←q.ey,e1];omega) (by rw [←q.ey,e2];omega)
  have hl:Nat.log2 D<64:=(Nat.log2_lt hD).2 hD1
  have hX:quoX N=X1*18446744073709551616+X0:=by unfold quoX;rw [←hi,hx]
  have hY:quoY D=Y1:=by
    have h:=q.ey
    rw [hj,show 127 - Nat.log2 D=(63 - Nat.log2 D)+64 by omega,Nat.pow_add,←Nat.mul_assoc,show (2:Nat)^64=18446744073709551616 from rfl] at h
    unfold quoY
    exact (Nat.eq_of_mul_eq_mul_right (by omega) h).symm
  have hs:X1*18446744073709551616+X0=(X1 % Y1*18446744073709551616+X0)+Y1*(X1 / Y1*18446744073709551616):=by
    have h:=Nat.div_add_mod X1 Y1
    have h2:X1*18446744073709551616=(Y1*(X1 / Y1)+X1 % Y1)*18446744073709551616:=by rw [h]
    rw [h2,Nat.add_mul,Nat.mul_assoc]
    omega
  rw [hX,hY,hs,Nat.add_mul_div_left _ _ (by omega),Nat.add_mul_mod_self_left]
  exact ⟨Nat.add_comm _ _,rfl,hi,hj⟩
theorem fquot_word (N D:Nat) (ex ey:Int) (h1:N<18446744073709551616) (h2:N≠0) (h3:D<18446744073709551616) (h4:D≠0) (ex0 : -100000000≤ex) (ex1:ex≤100000000) (ey0 : -100000000≤ey) (ey1:ey≤100000000) (w:World) :
    Calls Tryz.prog 98 #[.agg #[.int .u64 0,.int .u64 (N:Int),.int .i64 ex,.bool false],.agg #[.int .u64 0,.int .u64 (D:Int),.int .i64 ey,.bool false]] w fun r w'=>∃ (H L:Nat) (E:Int) (T:Bool),
      r=.returned (.agg #[.int .u64 (H:Int),.int .u64 (L:Int),.int .i64 E,.bool T])∧H<18446744073709551616∧L<18446744073709551616∧9223372036854775808≤H*18446744073709551616+L∧H*18446744073709551616+L=quoX N / quoY D∧E=quoE N D ex ey∧T=decide (quoX N % quoY D≠0)∧-200001000≤E∧E≤200001000∧Ext w w':=by
  refine (fquot_any 0 N D ex ey false (by omega) h1 (by omega) h3 h4 (by omega) (by omega) (by omega) (by omega) w).mono fun r w' ⟨X1,X0,i,Y1,j,qf,hr,hw⟩=>?_
  obtain ⟨q1,q2,q3,q4⟩:=qu_spec qf h2 h4 h3
  have hi1:=qf.i1
  have hj1:=qf.j1
  have hY0:=qf.y0
  have hX0:=qf.x0
  have hX1:=qf.x1
  have hY1:=qf.y1
  have hX2:=qf.x2
  have hm:X1 % Y1<Y1:=Nat.mod_lt _ (by omega)
  have hlow:(X1 % Y1*18446744073709551616+X0) / Y1<18446744073709551616:=by
    refine (Nat.div_lt_iff_lt_mul (by omega)).2 ?_
    have h9:=Nat.mul_le_mul_right 18446744073709551616 (show X1 % Y1+1≤Y1 by omega)
    rw [Nat.mul_comm 18446744073709551616 Y1]
    omega
  have hbig:9223372036854775808≤X1 / Y1*18446744073709551616+(X1 % Y1*18446744073709551616+X0) / Y1:=by
    rcases Nat.lt_or_ge X1 Y1 with h8 | h8
    · rw [Nat.mod_eq_of_lt h8]
      have h7:9223372036854775808≤(X1*18446744073709551616+X0) / Y1:=(Nat.le_div_iff_mul_le (by omega)).2 (by omega)
      exact Nat.le_trans h7 (Nat.le_add_left _ _)
    · have h7:1≤X1 / Y1:=(Nat.le_div_iff_mul_le (by omega)).2 (by omega)
      have h6:=Nat.mul_le_mul_right 18446744073709551616 h7
      have h5:9223372036854775808≤X1 / Y1*18446744073709551616:=by omega
      exact Nat.le_trans h5 (Nat.le_add_right _ _)
  refine ⟨_,_,_,_,hr,Nat.lt_of_le_of_lt (Nat.div_le_self _ _) hX1,hlow,hbig,q1,?_,?_,by omega,by omega,hw⟩
  · unfold quoE;rw [←q3,←q4]
  · rw [q2,Bool.false_or]
set_option maxRecDepth 100000 in
set_option maxHeartbeats 8000000 in
theorem fdiv_any (a b:Nat) (mode:Int) (ha:a<18446744073709551616) (hb:b<18446744073709551616) (w:World) :
    Calls Tryz.prog 54 #[.int .u64 (a:Int),.int .u64 (b:Int),.int .i64 mode] w fun r w'=>r=.returned (.int .u64 ((fdivF a b mode:Nat):Int))∧Ext w w':=by
  have hx:a ^^^ b<18446744073709551616:=Nat.xor_lt_two_pow (n:=64) (by omega) (by omega)
  have h1:=bits_xor_u64_nat a b ha hb
  have CS:=signOf_any (a ^^^ b) hx
  rw [fneg_xor ha hb] at CS
  generalize a ^^^ b=x at *
  obtain ⟨R,hR⟩:∃ R,fdivF a b mode=R:=⟨_,rfl⟩
  rw [hR]
  unfold fdivF at hR
  obtain ⟨s,hs⟩:∃ s,(fneg a != fneg b)=s:=⟨_,rfl⟩
  rw [hs] at hR CS
  obtain ⟨z,hz⟩:∃ z,sgz s=z:=⟨_,rfl⟩
  have hz1:=sgz_le s
  rw [hz] at hR CS hz1
  have h2:bits BinOp.or IntKind.u64 9218868437227405312 (z:Int)=((9218868437227405312+z:Nat):Int):=by
    have:=or_sign' (s:=s) (a:=9218868437227405312) (by omega)
    rw [hz,Nat.add_comm] at this
    exact this
  obtain ⟨I,hI⟩:∃ I,9218868437227405312+z=I:=⟨_,rfl⟩
  rw [hI] at hR h2
  have NA:=isNaN_any a ha
  have NB:=isNaN_any b hb
  have IA:=isInf_any a ha
  have IB:=isInf_any b hb
  have ZA:=isZero_any a ha
  have ZB:=isZero_any b hb
  have za0:zeroB a=false→sig a≠0:=fun h h3=>(of_decide_eq_false h) ((sig_zero a).1 h3)
  have zb0:zeroB b=false→sig b≠0:=fun h h3=>(of_decide_eq_false h) ((sig_zero b).1 h3)
  obtain ⟨na,hna⟩:∃ q,nanB a=q:=⟨_,rfl⟩
  obtain ⟨nb,hnb⟩:∃ q,nanB b=q:=⟨_,rfl⟩
  obtain ⟨ia,hia⟩:∃ q,infB a=q:=⟨_,rfl⟩
  obtain ⟨ib,hib⟩:∃ q,infB b=q:=⟨_,rfl⟩
  obtain ⟨za,hza⟩:∃ q,zeroB a=q:=⟨_,rfl⟩
  obtain ⟨zb,hzb⟩:∃ q,zeroB b=q:=⟨_,rfl⟩
  rw [hna,hnb,hia,hib,hza,hzb] at hR
  rw [hna] at NA
  rw [hnb] at NB
  rw [hia] at IA
  rw [hib] at IB
  rw [hza] at ZA za0
  rw [hzb] at ZB zb0
  clear hna hnb hia hib hza hzb hs
  have NA:=Lib.hid NA;have NB:=Lib.hid NB
  have IA:=Lib.hid IA;have IB:=Lib.hid IB
  have ZA:=Lib.hid ZA;have ZB:=Lib.hid ZB
  have CS:=Lib.hid CS
  have ZS:=Lib.hid hz
  have HR:=Lib.hid hR
  have HA:=Lib.hid ha;have HB:=Lib.hid hb
  have Z0:=Lib.hid (And.intro za0 zb0)
  clear hz hR za0 zb0 ha hb hx hz1 hI
  go_enter Tryz.func54,Tryz.ntmps54
  cases na with
  | true =>
    go_wp2_with (first | ((with_reducible refine (NA.out _).mono ?_);rintro r w1 ⟨rfl,rfl⟩) | ((with_reducible refine (NB.out _).mono ?_);rintro r w1 ⟨rfl,rfl⟩) | ((with_reducible refine (IA.out _).mono ?_);rintro r w1 ⟨rfl,rfl⟩) | ((with_reducible refine (IB.out _).mono ?_);rintro r w1 ⟨rfl,rfl⟩) | ((with_reducible refine (ZA.out _).mono ?_);rintro r w1 ⟨rfl,rfl⟩) | ((with_reducible refine (ZB.out _).mono ?_);rintro r w1 ⟨rfl,rfl⟩) | ((with_reducible refine (CS.out _).mono ?_);rintro r w1 ⟨rfl,rfl⟩))
    go_ret
    refine ⟨ret_int ?_,Below.refl _ _⟩
    rw [←HR.out]
    simp
  | false =>
    cases nb with
    | true =>
      go_wp2_with (first | ((with_reducible refine (NA.out _).mono ?_);rintro r w1 ⟨rfl,rfl⟩) | ((with_reducible refine (NB.out _).mono ?_);rintro r w1 ⟨rfl,rfl⟩) | ((with_reducible refine (IA.out _).mono ?_);rintro r w1 ⟨rfl,rfl⟩) | ((with_reducible refine (IB.out _).mono ?_);rintro r w1 ⟨rfl,rfl⟩) | ((with_reducible refine (ZA.out _).mono ?_);rintro r w1 ⟨rfl,rfl⟩) | ((with_reducible refine (ZB.out _).mono ?_);rintro r w1 ⟨rfl,rfl⟩) | ((with_reducible refine (CS.out _).mono ?_);rintro r w1 ⟨rfl,rfl⟩))
      go_ret
      refine ⟨ret_int ?_,Below.refl _ _⟩
      rw [←HR.out]
      simp
    | false =>
      cases ia with
      | true =>
        cases ib with
        | true =>
          cases za with
          | true =>
            cases zb with
            | true =>
              go_wp2_with (first | ((with_reducible refine (NA.out _).mono ?_);rintro r w1 ⟨rfl,rfl⟩) | ((with_reducible refine (NB.out _).mono ?_);rintro r w1 ⟨rfl,rfl⟩) | ((with_reducible refine (IA.out _).mono ?_);rintro r w1 ⟨rfl,rfl⟩) | ((with_reducible refine (IB.out _).mono ?_);rintro r w1 ⟨rfl,rfl⟩) | ((with_reducible refine (ZA.out _).mono ?_);rintro r w1 ⟨rfl,rfl⟩) | ((with_reducible refine (ZB.out _).mono ?_);rintro r w1 ⟨rfl,rfl⟩) | ((with_reducible refine (CS.out _).mono ?_);rintro r w1 ⟨rfl,rfl⟩))
              go_ret
              refine ⟨ret_int ?_,Below.refl _ _⟩
              rw [←HR.out]
              simp
            | false =>
              go_wp2_with (first | ((with_reducible refine (NA.out _).mono ?_);rintro r w1 ⟨rfl,rfl⟩) | ((with_reducible refine (NB.out _).mono ?_);rintro r w1 ⟨rfl,rfl⟩) | ((with_reducible refine (IA.out _).mono ?_);rintro r w1 ⟨rfl,rfl⟩) | ((with_reducible refine (IB.out _).mono ?_);rintro r w1 ⟨rfl,rfl⟩) | ((with_reducible refine (ZA.out _).mono ?_);rintro r w1 ⟨rfl,rfl⟩) | ((with_reducible refine (ZB.out _).mono ?_);rintro r w1 ⟨rfl,rfl⟩) | ((with_reducible refine (CS.out _).mono ?_);rintro r w1 ⟨rfl,rfl⟩))
              go_ret
              refine ⟨ret_int ?_,Below.refl _ _⟩
              rw [←HR.out]
              simp
          | false =>
            cases zb with
            | true =>
              go_wp2_with (first | ((with_reducible refine (NA.out _).mono ?_);rintro r w1 ⟨rfl,rfl⟩) | ((with_reducible refine (NB.out _).mono ?_);rintro r w1 ⟨rfl,rfl⟩) | ((with_reducible refine (IA.out _).mono ?_);rintro r w1 ⟨rfl,rfl⟩) | ((with_reducible refine (IB.out _).mono ?_);rintro r w1 ⟨rfl,rfl⟩) | ((with_reducible refine (ZA.out _).mono ?_);rintro r w1 ⟨rfl,rfl⟩) | ((with_reducible refine (ZB.out _).mono ?_);rintro r w1 ⟨rfl,rfl⟩) | ((with_reducible refine (CS.out _).mono ?_);rintro r w1 ⟨rfl,rfl⟩))
              go_ret
              refine ⟨ret_int ?_,Below.refl _ _⟩
              rw [←HR.out]
              simp
            | false =>
              go_wp2_with (first | ((with_reducible refine (NA.out _).mono ?_);rintro r w1 ⟨rfl,rfl⟩) | ((with_reducible refine (NB.out _).mono ?_);rintro r w1 ⟨rfl,rfl⟩) | ((with_reducible refine (IA.out _).mono ?_);rintro r w1 ⟨rfl,rfl⟩) | ((with_reducible refine (IB.out _).mono ?_);rintro r w1 ⟨rfl,rfl⟩) | ((with_reducible refine (ZA.out _).mono ?_);rintro r w1 ⟨rfl,rfl⟩) | ((with_reducible refine (ZB.out _).mono ?_);rintro r w1 ⟨rfl,rfl⟩) | ((with_reducible refine (CS.out _).mono ?_);rintro r w1 ⟨rfl,rfl⟩))
              go_ret
              refine ⟨ret_int ?_,Below.refl _ _⟩
              rw [←HR.out]
              simp
        | false =>
          cases za with
          | true =>
            cases zb with
            | true =>
              go_wp2_with (first | ((with_reducible refine (NA.out _).mono ?_);rintro r w1 ⟨rfl,rfl⟩) | ((with_reducible refine (NB.out _).mono ?_);rintro r w1 ⟨rfl,rfl⟩) | ((with_reducible refine (IA.out _).mono ?_);rintro r w1 ⟨rfl,rfl⟩) | ((with_reducible refine (IB.out _).mono ?_);rintro r w1 ⟨rfl,rfl⟩) | ((with_reducible refine (ZA.out _).mono ?_);rintro r w1 ⟨rfl,rfl⟩) | ((with_reducible refine (ZB.out _).mono ?_);rintro r w1 ⟨rfl,rfl⟩) | ((with_reducible refine (CS.out _).mono ?_);rintro r w1 ⟨rfl,rfl⟩))
              go_ret
              refine ⟨ret_int ?_,Below.refl _ _⟩
              rw [←HR.out]
              simp
            | false =>
              go_wp2_with (first | ((with_reducible refine (NA.out _).mono ?_);rintro r w1 ⟨rfl,rfl⟩) | ((with_reducible refine (NB.out _).mono ?_);rintro r w1 ⟨rfl,rfl⟩) | ((with_reducible refine (IA.out _).mono ?_);rintro r w1 ⟨rfl,rfl⟩) | ((with_reducible refine (IB.out _).mono ?_);rintro r w1 ⟨rfl,rfl⟩) | ((with_reducible refine (ZA.out _).mono ?_);rintro r w1 ⟨rfl,rfl⟩) | ((with_reducible refine (ZB.out _).mono ?_);rintro r w1 ⟨rfl,rfl⟩) | ((with_reducible refine (CS.out _).mono ?_);rintro r w1 ⟨rfl,rfl⟩))
              go_ret
              refine ⟨ret_int ?_,Below.refl _ _⟩
              rw [←HR.out]
              simp
          | false =>
            cases zb with
            | true =>
              go_wp2_with (first | ((with_reducible refine (NA.out _).mono ?_);rintro r w1 ⟨rfl,rfl⟩) | ((with_reducible refine (NB.out _).mono ?_);rintro r w1 ⟨rfl,rfl⟩) | ((with_reducible refine (IA.out _).mono ?_);rintro r w1 ⟨rfl,rfl⟩) | ((with_reducible refine (IB.out _).mono ?_);rintro r w1 ⟨rfl,rfl⟩) | ((with_reducible refine (ZA.out _).mono ?_);rintro r w1 ⟨rfl,rfl⟩) | ((with_reducible refine (ZB.out _).mono ?_);rintro r w1 ⟨rfl,rfl⟩) | ((with_reducible refine (CS.out _).mono ?_);rintro r w1 ⟨rfl,rfl⟩))
              go_ret
              refine ⟨ret_int ?_,Below.refl _ _⟩
              rw [←HR.out]
              simp
            | false =>
              go_wp2_with (first | ((with_reducible refine (NA.out _).mono ?_);rintro r w1 ⟨rfl,rfl⟩) | ((with_reducible refine (NB.out _).mono ?_);rintro r w1 ⟨rfl,rfl⟩) | ((with_reducible refine (IA.out _).mono ?_);rintro r w1 ⟨rfl,rfl⟩) | ((with_reducible refine (IB.out _).mono ?_);rintro r w1 ⟨rfl,rfl⟩) | ((with_reducible refine (ZA.out _).mono ?_);rintro r w1 ⟨rfl,rfl⟩) | ((with_reducible refine (ZB.out _).mono ?_);rintro r w1 ⟨rfl,rfl⟩) | ((with_reducible refine (CS.out _).mono ?_);rintro r w1 ⟨rfl,rfl⟩))
              go_ret
              refine ⟨ret_int ?_,Below.refl _ _⟩
              rw [←HR.out]
              simp
      | false =>
        cases ib with
        | true =>
          cases za with
          | true =>
            cases zb with
            | true =>
              go_wp2_with (first | ((with_reducible refine (NA.out _).mono ?_);rintro r w1 ⟨rfl,rfl⟩) | ((with_reducible refine (NB.out _).mono ?_);rintro r w1 ⟨rfl,rfl⟩) | ((with_reducible refine (IA.out _).mono ?_);rintro r w1 ⟨rfl,rfl⟩) | ((with_reducible refine (IB.out _).mono ?_);rintro r w1 ⟨rfl,rfl⟩) | ((with_reducible refine (ZA.out _).mono ?_);rintro r w1 ⟨rfl,rfl⟩) | ((with_reducible refine (ZB.out _).mono ?_);rintro r w1 ⟨rfl,rfl⟩) | ((with_reducible refine (CS.out _).mono ?_);rintro r w1 ⟨rfl,rfl⟩))
              go_ret
              refine ⟨ret_int ?_,Below.refl _ _⟩
              rw [←HR.out]
              simp
            | false =>
              go_wp2_with (first | ((with_reducible refine (NA.out _).mono ?_);rintro r w1 ⟨rfl,rfl⟩) | ((with_reducible refine (NB.out _).mono ?_);rintro r w1 ⟨rfl,rfl⟩) | ((with_reducible refine (IA.out _).mono ?_);rintro r w1 ⟨rfl,rfl⟩) | ((with_reducible refine (IB.out _).mono ?_);rintro r w1 ⟨rfl,rfl⟩) | ((with_reducible refine (ZA.out _).mono ?_);rintro r w1 ⟨rfl,rfl⟩) | ((with_reducible refine (ZB.out _).mono ?_);rintro r w1 ⟨rfl,rfl⟩) | ((with_reducible refine (CS.out _).mono ?_);rintro r w1 ⟨rfl,rfl⟩))
              go_ret
              refine ⟨ret_int ?_,Below.refl _ _⟩
              rw [←HR.out]
              simp
          | false =>
            cases zb with
            | true =>
              go_wp2_with (first | ((with_reducible refine (NA.out _).mono ?_);rintro r w1 ⟨rfl,rfl⟩) | ((with_reducible refine (NB.out _).mono ?_);rintro r w1 ⟨rfl,rfl⟩) | ((with_reducible refine (IA.out _).mono ?_);rintro r w1 ⟨rfl,rfl⟩) | ((with_reducible refine (IB.out _).mono ?_);rintro r w1 ⟨rfl,rfl⟩) | ((with_reducible refine (ZA.out _).mono ?_);rintro r w1 ⟨rfl,rfl⟩) | ((with_reducible refine (ZB.out _).mono ?_);rintro r w1 ⟨rfl,rfl⟩) | ((with_reducible refine (CS.out _).mono ?_);rintro r w1 ⟨rfl,rfl⟩))
              go_ret
              refine ⟨ret_int ?_,Below.refl _ _⟩
              rw [←HR.out]
              simp
            | false =>
              go_wp2_with (first | ((with_reducible refine (NA.out _).mono ?_);rintro r w1 ⟨rfl,rfl⟩) | ((with_reducible refine (NB.out _).mono ?_);rintro r w1 ⟨rfl,rfl⟩) | ((with_reducible refine (IA.out _).mono ?_);rintro r w1 ⟨rfl,rfl⟩) | ((with_reducible refine (IB.out _).mono ?_);rintro r w1 ⟨rfl,rfl⟩) | ((with_reducible refine (ZA.out _).mono ?_);rintro r w1 ⟨rfl,rfl⟩) | ((with_reducible refine (ZB.out _).mono ?_);rintro r w1 ⟨rfl,rfl⟩) | ((with_reducible refine (CS.out _).mono ?_);rintro r w1 ⟨rfl,rfl⟩))
              go_ret
              refine ⟨ret_int ?_,Below.refl _ _⟩
              rw [←HR.out]
              simp
        | false =>
          cases za with
          | true =>
            cases zb with
            | true =>
              go_wp2_with (first | ((with_reducible refine (NA.out _).mono ?_);rintro r w1 ⟨rfl,rfl⟩) | ((with_reducible refine (NB.out _).mono ?_);rintro r w1 ⟨rfl,rfl⟩) | ((with_reducible refine (IA.out _).mono ?_);rintro r w1 ⟨rfl,rfl⟩) | ((with_reducible refine (IB.out _).mono ?_);rintro r w1 ⟨rfl,rfl⟩) | ((with_reducible refine (ZA.out _).mono ?_);rintro r w1 ⟨rfl,rfl⟩) | ((with_reducible refine (ZB.out _).mono ?_);rintro r w1 ⟨rfl,rfl⟩) | ((with_reducible refine (CS.out _).mono ?_);rintro r w1 ⟨rfl,rfl⟩))
              go_ret
              refine ⟨ret_int ?_,Below.refl _ _⟩
              rw [←HR.out]
              simp
            | false =>
              go_wp2_with (first | ((with_reducible refine (NA.out _).mono ?_);rintro r w1 ⟨rfl,rfl⟩) | ((with_reducible refine (NB.out _).mono ?_);rintro r w1 ⟨rfl,rfl⟩) | ((with_reducible refine (IA.out _).mono ?_);rintro r w1 ⟨rfl,rfl⟩) | ((with_reducible refine (IB.out _).mono ?_);rintro r w1 ⟨rfl,rfl⟩) | ((with_reducible refine (ZA.out _).mono ?_);rintro r w1 ⟨rfl,rfl⟩) | ((with_reducible refine (ZB.out _).mono ?_);rintro r w1 ⟨rfl,rfl⟩) | ((with_reducible refine (CS.out _).mono ?_);rintro r w1 ⟨rfl,rfl⟩))
              go_ret
              refine ⟨ret_int ?_,Below.refl _ _⟩
              rw [←HR.out]
              simp
          | false =>
            cases zb with
            | true =>
              go_wp2_with (first | ((with_reducible refine (NA.out _).mono ?_);rintro r w1 ⟨rfl,rfl⟩) | ((with_reducible refine (NB.out _).mono ?_);rintro r w1 ⟨rfl,rfl⟩) | ((with_reducible refine (IA.out _).mono ?_);rintro r w1 ⟨rfl,rfl⟩) | ((with_reducible refine (IB.out _).mono ?_);rintro r w1 ⟨rfl,rfl⟩) | ((with_reducible refine (ZA.out _).mono ?_);rintro r w1 ⟨rfl,rfl⟩) | ((with_reducible refine (ZB.out _).mono ?_);rintro r w1 ⟨rfl,rfl⟩) | ((with_reducible refine (CS.out _).mono ?_);rintro r w1 ⟨rfl,rfl⟩))
              go_ret
              refine ⟨ret_int ?_,Below.refl _ _⟩
              rw [←HR.out]
              simp
            | false =>
              have HF:=Lib.hid (show z+fla s (quoX (sig a) / quoY (sig b)) (quoE (sig a) (sig b) (-1074+(fsh a:Int)) (-1074+(fsh b:Int))) (decide (quoX (sig a) % quoY (sig b)≠0)) mode=R by rw [←HR.out];simp)
              have ga:=sig_lt a
              have gb:=sig_lt b
              have ga0:=Z0.out.1 rfl
              have gb0:=Z0.out.2 rfl
              have fa:=fsh_lt a
              have fb:=fsh_lt b
              have CQ:=Lib.hid (fquot_word (sig a) (sig b) (-1074+(fsh a:Int)) (-1074+(fsh b:Int)) (by omega) ga0 (by omega) gb0 (by omega) (by omega) (by omega) (by omega))
              have SA:=Lib.hid (fsplit_any a HA.out)
              have SB:=Lib.hid (fsplit_any b HB.out)
              clear HR Z0 ga0 gb0 ga gb
              obtain ⟨ea,hea⟩:∃ ea:Int,-1074+(fsh a:Int)=ea:=⟨_,rfl⟩
              obtain ⟨eb,heb⟩:∃ eb:Int,-1074+(fsh b:Int)=eb:=⟨_,rfl⟩
              rw [hea] at HF CQ SA
              rw [heb] at HF CQ SB
              have he0 : -1074≤ea∧ea≤2000:=by omega
              have he1 : -1074≤eb∧eb≤2000:=by omega
              clear hea heb fa fb
              generalize sig a=N at *
              generalize sig b=D at *
              go_wp2_with (first | ((with_reducible refine (NA.out _).mono ?_);rintro r w1 ⟨rfl,rfl⟩) | ((with_reducible refine (NB.out _).mono ?_);rintro r w1 ⟨rfl,rfl⟩) | ((with_reducible refine (IA.out _).mono ?_);rintro r w1 ⟨rfl,rfl⟩) | ((with_reducible refine (IB.out _).mono ?_);rintro r w1 ⟨rfl,rfl⟩) | ((with_reducible refine (ZA.out _).mono ?_);rintro r w1 ⟨rfl,rfl⟩) | ((with_reducible refine (ZB.out _).mono ?_);rintro r w1 ⟨rfl,rfl⟩) | ((with_reducible refine (CS.out _).mono ?_);rintro r w1 ⟨rfl,rfl⟩))
              refine (SA.out _).mono ?_
              rintro r w1 ⟨rfl,hw1⟩
              go_wp2_with fail
              refine (SB.out _).mono ?_
              rintro r w2 ⟨rfl,hw2⟩
              go_wp2_with fail
              refine (CQ.out _).mono ?_
              rintro r w3 ⟨H,L,E,T,rfl,hH,hL,hbig,q1,q2,q3,hE0,hE1,hw3⟩
              have Q:=Lib.hid (And.intro hbig (And.intro q1 (And.intro q2 q3)))
              clear hbig q1 q2 q3
              go_wp2_with fail
              refine (CS.out _).mono ?_
              rintro r w4 ⟨rfl,rfl⟩
              go_wp2_with fail
              have hbig:=Q.out.1
              have h53:(2:Nat)^53≤9223372036854775808:=by decide
              have CR:=fround_at H L E T s mode hH hL (by omega) (fun _=>Nat.le_trans h53 hbig) (by omega) (by omega) ZS.out R (by
                rw [Q.out.2.1,Q.out.2.2.1,Q.out.2.2.2];exact HF.out)
              refine (CR _).mono ?_
              rintro r w5 ⟨rfl,hw5⟩
              go_wp2
              go_ret
              exact ⟨rfl,Ext.trans (Ext.trans (Ext.trans hw1 hw2) hw3) hw5⟩
end Go.Proofs.YtkomhemjodbkpaaGreatDoor
