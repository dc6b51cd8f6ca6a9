import Derived.Test.YtkomhemjodbkpaaGreatDoorIExLawU2
import Derived.Test.YtkomhemjodbkpaaGreatDoorIExLawU4
import Derived.Test.YtkomhemjodbkpaaGreatDoorIExLawU7
import Derived.Test.YtkomhemjodbkpaaGreatDoorIExLawU1
namespace Go.Proofs.YtkomhemjodbkpaaGreatDoor
theorem fplace_ge (N:Nat) (e:Int):e+(Nat.log2 N:Int) - 52≤fplace N e∧-1074≤fplace N e∧(fplace N e = -1074∨fplace N e=e+(Nat.log2 N:Int) - 52):=by unfold fplace;omega
theorem fz_bits {q K:Nat} (hK:K≤9007199254740992) (h:q=0∨4503599627370496≤K) (hq:q≤2045):fz (q*4503599627370496+K)=K*2^q:=by
  have hm:fmag (q*4503599627370496+K)=q*4503599627370496+K:=Nat.mod_eq_of_lt (by omega)
  unfold fz sig fsh ffld
  rw [hm]
  by_cases h1:K<4503599627370496
  · obtain rfl:q=0:=by omega
    rw [if_pos (by omega),show (0*4503599627370496+K) / 4503599627370496 - 1=0 by omega]
    simp
  · by_cases h2:K=9007199254740992
    · subst h2
      rw [if_neg (by omega),show (q*4503599627370496+9007199254740992) % 4503599627370496+4503599627370496=4503599627370496 by omega,show (q*4503599627370496+9007199254740992) / 4503599627370496 - 1=q+1 by omega,Nat.pow_succ]
      omega
    · rw [if_neg (by omega),show (q*4503599627370496+K) % 4503599627370496+4503599627370496=K by omega,show (q*4503599627370496+K) / 4503599627370496 - 1=q by omega]
theorem fz_succ {m:Nat} (h:m<9218868437227405312):fz (m+1)=fz m+2^(m / 4503599627370496 - 1):=by
  obtain ⟨q,K,hq,hK,hn,hm⟩:∃ q K,q≤2045∧K<9007199254740992∧(q=0∨4503599627370496≤K)∧m=q*4503599627370496+K:=by
    by_cases h1:m<4503599627370496
    · exact ⟨0,m,by omega,by omega,by omega,by omega⟩
    · exact ⟨m / 4503599627370496 - 1,m % 4503599627370496+4503599627370496,by omega,by omega,by omega,by omega⟩
  have e1:m / 4503599627370496 - 1=q:=by omega
  rw [e1,hm,Nat.add_assoc,fz_bits (by omega) (by omega) hq,fz_bits (by omega) hn hq,Nat.add_mul,Nat.one_mul]
theorem fz_lt_succ {m:Nat} (h:m<9218868437227405312):fz m<fz (m+1):=by
  rw [fz_succ h]
  exact Nat.lt_add_of_pos_right (Nat.pow_pos (by omega))
theorem fz_mono {m n:Nat} (h:m≤n) (hn:n≤9218868437227405312):fz m≤fz n:=by
  induction n with
  | zero=>rw [show m=0 by omega];exact Nat.le_refl _
  | succ n ih =>
    rcases Nat.lt_or_ge n m with h1 | h1
    · rw [show m=n+1 by omega];exact Nat.le_refl _
    · exact Nat.le_trans (ih h1 (by omega)) (Nat.le_of_lt (fz_lt_succ (by omega)))
theorem fz_lt {m n:Nat} (h:m<n) (hn:n≤9218868437227405312):fz m<fz n:=Nat.lt_of_lt_of_le (fz_lt_succ (by omega)) (fz_mono (show m+1≤n from h) hn)
theorem fz_zero0:fz 0=0:=by decide
def vu (N:Nat) (e:Int) (T:Nat):Nat:=N*2^(e+T).toNat
def fu (m T:Nat):Nat:=fz m*2^(T - 1074)
theorem fu_lt {m n T:Nat} (h:m<n) (hn:n≤9218868437227405312):fu m T<fu n T:=Nat.mul_lt_mul_of_pos_right (fz_lt h hn) (Nat.pow_pos (by omega))
theorem fu_le {m n T:Nat} (h:m≤n) (hn:n≤9218868437227405312):fu m T≤fu n T:=Nat.mul_le_mul_right _ (fz_mono h hn)
theorem fu_lt_iff {m n T:Nat} (hm:m≤9218868437227405312) (hn:n≤9218868437227405312):fu m T<fu n T↔m<n:=by
  constructor
  · intro h
    rcases Nat.lt_or_ge m n with h1 | h1
    · exact h1
    · exact absurd (fu_le (T:=T) h1 hm) (by omega)
  · intro h;exact fu_lt h hn
theorem fu_zero (T:Nat):fu 0 T=0:=by unfold fu;rw [fz_zero0,Nat.zero_mul]
def fraise (neg:Bool) (mode:Int) (b:Bool):Bool:=if mode=1 then neg else if mode=2 then !neg else if mode=3 then false else b
structure Rd (N:Nat) (e:Int) (T lo:Nat) (b:Bool):Prop where
  lt:lo<9218868437227405312
  val:∀ neg mode,fla neg N e false mode=lo+(if fraise neg mode b then 1 else 0)
  above:fu lo T<vu N e T
  below:lo+1=9218868437227405312∧fu 9218868437227405312 T≤vu N e T∨vu N e T<fu (lo+1) T
  near:b=true∧fu lo T+fu (lo+1) T<2*vu N e T∨b=false∧2*vu N e T<fu lo T+fu (lo+1) T∨2*vu N e T=fu lo T+fu (lo+1) T∧b=decide (lo % 2=1)
def Rx (N:Nat) (e:Int) (T lo:Nat):Prop:=lo<9218868437227405312∧(∀ neg mode,fla neg N e false mode=lo)∧fu lo T=vu N e T
def low46:Nat:=2046
theorem fz_inf:fz 9218868437227405312=2^52*2^low46:=by
  have h1:sig 9218868437227405312=2^52:=by decide
  have h2:fsh 9218868437227405312=low46:=by decide
  unfold fz
  rw [h1,h2]
theorem fla_spec {N:Nat} (h0:N≠0) (e:Int) {T:Nat} (hT:1074≤T) (he : -(T:Int)≤e):(∃ lo,Rx N e T lo)∨∃ lo b,Rd N e T lo b:=by
  obtain ⟨p1,p2,p3⟩:=fplace_ge N e
  have l1:=Nat.log2_self_le h0
  have l2:=@Nat.lt_log2_self N
  by_cases hg:e+(Nat.log2 N:Int) > 1023
  · -- too great
    right
    have hx:fu 9218868437227405312 T≤vu N e T:=by
      unfold fu vu
      rw [fz_inf,←Nat.pow_add,←Nat.pow_add]
      have h2:2^(Nat.log2 N)*2^(e+T).toNat≤N*2^(e+T).toNat:=Nat.mul_le_mul_right _ l1
      rw [←Nat.pow_add] at h2
      exact Nat.le_trans (Nat.pow_le_pow_right (by omega) (by unfold low46;omega)) h2
    have hy:fu 9218868437227405311 T<fu 9218868437227405312 T:=fu_lt (by omega) (Nat.le_refl _)
    refine ⟨9218868437227405311,true,by omega,?_,by omega,Or.inl ⟨rfl,hx⟩,Or.inl ⟨rfl,?_⟩⟩
    · intro neg mode
      unfold fla fover fraise
      rw [if_pos hg]
      by_cases m1:mode=1
      · rw [if_pos m1];cases neg <;> rfl
      · rw [if_neg m1]
        by_cases m2:mode=2
        · rw [if_pos m2];cases neg <;> rfl
        · rw [if_neg m2]
          by_cases m3:mode=3
          · rw [if_pos m3];rfl
          · rw [if_neg m3];rfl
    · show fu 9218868437227405311 T+fu (9218868437227405311+1) T<2*vu N e T
      rw [show 9218868437227405311+1=9218868437227405312 from rfl]
      omega
  · obtain ⟨q,hq⟩:∃ q:Nat,(q:Int)=fplace N e+1074:=⟨(fplace N e+1074).toNat,by omega⟩
    have hq1:q≤2045:=by omega
    have hqn:(fplace N e+1074).toNat=q:=by omega
    by_cases hp:fplace N e≤e
    · -- exact
      left
      obtain ⟨i,hi⟩:∃ i:Nat,(i:Int)=e - fplace N e:=⟨(e - fplace N e).toNat,by omega⟩
      have hin:(e - fplace N e).toNat=i:=by omega
      have hKl:N*2^i<9007199254740992:=by
        have h2:N*2^i<2^(Nat.log2 N+1)*2^i:=Nat.mul_lt_mul_of_pos_right l2 (Nat.pow_pos (by omega))
        rw [←Nat.pow_add] at h2
        exact Nat.lt_of_lt_of_le h2 (by rw [show 9007199254740992=2^53 from rfl];exact Nat.pow_le_pow_right (by omega) (by omega))
      have hKn:q=0∨4503599627370496≤N*2^i:=by
        rcases p3 with p3 | p3
        · left;omega
        · right
          have h2:2^(Nat.log2 N)*2^i≤N*2^i:=Nat.mul_le_mul_right _ l1
          rw [←Nat.pow_add,show Nat.log2 N+i=52 by omega] at h2
          exact h2
      refine ⟨q*4503599627370496+N*2^i,by omega,?_,?_⟩
      · intro neg mode
        unfold fla
        rw [if_neg hg,if_pos hp,hqn,hin]
      · unfold fu vu
        rw [fz_bits (by omega) hKn hq1,Nat.mul_assoc,Nat.mul_assoc,←Nat.pow_add,←Nat.pow_add,show i+(q+(T - 1074))=(e+T).toNat by omega]
    · obtain ⟨D,hD⟩:∃ D:Nat,(D:Int)=fplace N e - e:=⟨(fplace N e - e).toNat,by omega⟩
      have hDn:(fplace N e - e).toNat=D:=by omega
      have hD0:D≠0:=by omega
      have hpD:0<2^D:=Nat.pow_pos (by omega)
      have hdm:=Nat.div_add_mod N (2^D)
      have hml:=Nat.mod_lt N hpD
      have hKl:N / 2^D<9007199254740992:=by
        rw [Nat.div_lt_iff_lt_mul hpD,show 9007199254740992=2^53 from rfl,←Nat.pow_add]
        exact Nat.lt_of_lt_of_le l2 (Nat.pow_le_pow_right (by omega) (by omega))
      have hKn:q=0∨4503599627370496≤N / 2^D:=by
        rcases p3 with p3 | p3
        · left;omega
        · right
          rw [Nat.le_div_iff_mul_le hpD,show 4503599627370496=2^52 from rfl,←Nat.pow_add,show 52+D=Nat.log2 N by omega]
          exact l1
      obtain ⟨c,hc⟩:∃ c:Nat,c=(e+T).toNat:=⟨_,rfl⟩
      have hvu:vu N e T=(N / 2^D*2^D+N % 2^D)*2^c:=by unfold vu;rw [←hc];congr 1;rw [Nat.mul_comm];omega
      have hlo:fu (q*4503599627370496+N / 2^D) T=N / 2^D*2^D*2^c:=by
        unfold fu
        rw [fz_bits (by omega) hKn hq1,Nat.mul_assoc,Nat.mul_assoc,←Nat.pow_add,←Nat.pow_add,show q+(T - 1074)=D+c by omega]
      have hhi:fu (q*4503599627370496+N / 2^D+1) T=(N / 2^D+1)*2^D*2^c:=by
        unfold fu
        rw [Nat.add_assoc,fz_bits (by omega) (by omega) hq1,Nat.mul_assoc,Nat.mul_assoc,←Nat.pow_add,←Nat.pow_add,show q+(T - 1074)=D+c by omega]
      have hv:∀ neg mode,fla neg N e false mode=q*4503599627370496+N / 2^D+(if fup neg mode (N / 2^D) (N % 2^D) (2^D) false then 1 else 0):=by
        intro neg mode
        unfold fla
        rw [if_neg hg,if_neg hp,hqn,hDn]
      have hKo:decide (N / 2^D % 2=1)=decide ((q*4503599627370496+N / 2^D) % 2=1):=decide_eq_decide.2 (by omega)
      generalize N / 2^D=K at *
      generalize N % 2^D=r at *
      have hpc:0<2^c:=Nat.pow_pos (by omega)
      have hlt:q*4503599627370496+K<9218868437227405312:=by omega
      by_cases hr:r=0
      · left
        subst hr
        refine ⟨q*4503599627370496+K,hlt,?_,?_⟩
        · intro neg mode
          rw [hv]
          have e3:fup neg mode K 0 (2^D) false=false:=by
            unfold fup
            simp <;> omega
          rw [e3]
          simp only [Bool.false_eq_true,if_false,Nat.add_zero]
        · rw [hlo,hvu];rfl
      · right
        generalize 2^D=P at *
        generalize 2^c=C at *
        have q1:(K*P+r)*C=K*P*C+r*C:=Nat.add_mul _ _ _
        have q2:(K+1)*P*C=K*P*C+P*C:=by rw [Nat.add_mul K 1 P,Nat.one_mul,Nat.add_mul]
        have q3:0<r*C:=Nat.mul_pos (by omega) hpc
        have q4:r*C<P*C:=Nat.mul_lt_mul_of_pos_right hml hpc
        have q5:2*(r*C)=2*r*C:=by rw [Nat.mul_assoc]
        refine ⟨q*4503599627370496+K,decide (P<2*r)||decide (P=2*r)&&decide (K % 2=1),hlt,?_,?_,?_,?_⟩
        · intro neg mode
          rw [hv]
          unfold fup fraise
          simp only [decide_eq_true hr,Bool.or_false,Bool.and_true,Bool.false_or]
        · rw [hlo,hvu];omega
        · right;rw [hhi,hvu];omega
        · rw [hlo,hhi,hvu,q1,q2]
          rcases Nat.lt_trichotomy P (2*r) with h3 | h3 | h3
          · left
            have:=Nat.mul_lt_mul_of_pos_right h3 hpc
            exact ⟨by rw [decide_eq_true h3];rfl,by omega⟩
          · right;right
            have:P*C=2*r*C:=by rw [h3]
            exact ⟨by omega,by rw [decide_eq_false (show ¬ P<2*r by omega),decide_eq_true h3,Bool.false_or,Bool.true_and];exact hKo⟩
          · right;left
            have:=Nat.mul_lt_mul_of_pos_right h3 hpc
            exact ⟨by rw [decide_eq_false (show ¬ P<2*r by omega),decide_eq_false (show ¬ P=2*r by omega)];rfl,by omega⟩
theorem kept_lt {N k:Nat} (hk:Nat.log2 N+1≤53+k):N / 2^k<9007199254740992:=by
  rw [Nat.div_lt_iff_lt_mul (Nat.pow_pos (by omega)),show (9007199254740992:Nat)=2^53 by decide,←Nat.pow_add]
  refine Nat.lt_of_lt_of_le (Nat.lt_log2_self (n:=N)) (Nat.pow_le_pow_right (by omega) hk)
theorem fla_le (neg:Bool) (N:Nat) (e:Int) (t:Bool) (mode:Int):fla neg N e t mode≤9218868437227405312:=by
  unfold fla
  split
  · split <;> omega
  · rename_i h
    have hP:fplace N e=max (e+(Nat.log2 N:Int) - 52) (-1074):=rfl
    split
    · rename_i h1
      obtain ⟨k,hk⟩:∃ k:Nat,(e - fplace N e).toNat=k:=⟨_,rfl⟩
      obtain ⟨p,hp⟩:∃ p:Nat,(fplace N e+1074).toNat=p:=⟨_,rfl⟩
      rw [hk,hp]
      have hlt:N*2^k<9007199254740992:=by
        rw [show (9007199254740992:Nat)=2^53 by decide]
        have h2:N*2^k<2^(Nat.log2 N+1)*2^k:=Nat.mul_lt_mul_of_pos_right (Nat.lt_log2_self (n:=N)) (Nat.pow_pos (by omega))
        rw [←Nat.pow_add] at h2
        exact Nat.lt_of_lt_of_le h2 (Nat.pow_le_pow_right (by omega) (by omega))
      have hp2:p≤2045:=by omega
      generalize N*2^k=x at *
      omega
    · rename_i h1
      obtain ⟨k,hk⟩:∃ k:Nat,(fplace N e - e).toNat=k:=⟨_,rfl⟩
      obtain ⟨p,hp⟩:∃ p:Nat,(fplace N e+1074).toNat=p:=⟨_,rfl⟩
      rw [hk,hp]
      have hlt:=kept_lt (N:=N) (k:=k) (by omega)
      have hp2:p≤2045:=by omega
      generalize N / 2^k=x at *
      split <;> omega
theorem nan_mag {f:Nat} (s:Bool) (h:f≤9218868437227405312):nanB (sgz s+f)=false∧sgz s+f<18446744073709551616:=by
  have h1:=sgz_le s
  have h2:fmag (sgz s+f)=f:=by unfold fmag sgz;split <;> omega
  exact ⟨decide_eq_false (by omega),by omega⟩
theorem cancel_num (mode:Int):nanB (cancel mode)=false∧cancel mode<18446744073709551616∧fmag (cancel mode)=0:=by
  unfold cancel
  split <;> decide
theorem rsum_num (S m mode:Int):nanB (rsum S m mode)=false∧rsum S m mode<18446744073709551616:=by
  unfold rsum
  split
  · exact ⟨(cancel_num mode).1,(cancel_num mode).2.1⟩
  · unfold rnd flr
    have h:=fla_le (decide (S<0)) S.natAbs m false mode
    exact nan_mag (decide (S<0)) h
theorem fin_not {a:Nat} (h:finB a=true):nanB a=false∧infB a=false:=by
  have h1:fmag a<9218868437227405312:=of_decide_eq_true h
  exact ⟨decide_eq_false (by omega),decide_eq_false (by omega)⟩
theorem fin_one:finB 4607182418800017408=true:=by decide
theorem fin_sgz (s:Bool):finB (sgz s)=true∧sgz s<18446744073709551616∧fmag (sgz s)=0:=by cases s <;> decide
theorem frank_zero {f:Nat} (h:fmag f=0):frank f=0:=by unfold frank;rw [h];split <;> rfl
theorem xne_comm (a b:Bool):(a != b)=(b != a):=by cases a <;> cases b <;> rfl
theorem fmaF_comm (a b c:Nat) (mode:Int):fmaF a b c mode=fmaF b a c mode:=by
  unfold fmaF
  rw [Bool.or_comm (nanB b) (nanB a),Bool.or_comm (infB b) (infB a),Bool.or_comm (zeroB b) (zeroB a),xne_comm (fneg b) (fneg a),Nat.mul_comm (fz b) (fz a)]
theorem fmulF_comm (a b:Nat) (mode:Int):fmulF a b mode=fmulF b a mode:=by
  unfold fmulF
  rw [xne_comm (fneg b) (fneg a),fmaF_comm]
theorem fz_one:fz 4607182418800017408=2^low74:=by decide +kernel
theorem one_facts:nanB 4607182418800017408=false∧infB 4607182418800017408=false∧zeroB 4607182418800017408=false∧fneg 4607182418800017408=false:=by decide +kernel
theorem fma_one {a c:Nat} (mode:Int) (ha:a<18446744073709551616) (hn:nanB a=false) (hz:zeroB a=false) (hc:fmag c=0) (hc2:nanB c=false) (hc3:infB c=false):fmaF a 4607182418800017408 c mode=a:=by
  obtain ⟨o1,o2,o3,o4⟩:=one_facts
  have hp:=f_parts ha
  have hx:(fneg a != false)=fneg a:=by cases fneg a <;> rfl
  unfold fmaF
  rw [hn,hc2,o1,o2,o3,hz,hc3,o4,hx]
  simp only [Bool.or_false,Bool.and_false,Bool.false_eq_true,if_false,Bool.false_and]
  cases hi:infB a
  · simp only [Bool.false_eq_true,if_false]
    have hm:fmag a≤9218868437227405312:=by
      have h1:¬ 9218868437227405312<fmag a:=of_decide_eq_false hn
      omega
    have hm2:fmag a≠9218868437227405312:=of_decide_eq_false hi
    have hm0:fmag a≠0:=of_decide_eq_false hz
    have hf0:fz a≠0:=fun h=>hm0 ((fz_zero a).1 h)
    rw [(fz_zero c).2 hc,Nat.zero_mul,sgi_zero,Int.add_zero,fz_one]
    have hA:fz a*2^low74≠0:=Nat.mul_ne_zero hf0 (Nat.pos_iff_ne_zero.1 (Nat.pow_pos (by omega)))
    have hv:=Num.unit (fz a) low74 (e:=-1074) (m:=-2148) (by decide)
    unfold rsum
    rw [if_neg (by unfold sgi;split <;> omega),rnd_sgi _ hA,←hv.fla hf0,fla_fz _ hm0 (by omega)]
    exact hp.symm
  · simp only [if_true]
    have hm:fmag a=9218868437227405312:=of_decide_eq_true hi
    rw [hm] at hp
    omega
theorem inf_val {a:Nat} (ha:a<18446744073709551616) (hi:infB a=true):9218868437227405312+sgz (fneg a)=a:=by
  have hp:=f_parts ha
  have hm:fmag a=9218868437227405312:=of_decide_eq_true hi
  omega
theorem zero_val {a:Nat} (ha:a<18446744073709551616) (hz:zeroB a=true):sgz (fneg a)=a:=by
  have hp:=f_parts ha
  have hm:fmag a=0:=of_decide_eq_true hz
  omega
theorem zero_not {a:Nat} (hz:zeroB a=true):nanB a=false∧infB a=false∧fmag a=0∧fz a=0:=by
  have hm:fmag a=0:=of_decide_eq_true hz
  exact ⟨decide_eq_false (by omega),decide_eq_false (by omega),hm,(fz_zero a).2 hm⟩
theorem inf_not {a:Nat} (hi:infB a=true):nanB a=false∧zeroB a=false:=by
  have hm:fmag a=9218868437227405312:=of_decide_eq_true hi
  exact ⟨decide_eq_false (by omega),decide_eq_false (by omega)⟩
theorem xor_false (b:Bool):(b != false)=b:=by cases b <;> rfl
theorem add_form (a b:Nat) (mode:Int):fmaF a 4607182418800017408 b mode =
    if nanB a||nanB b then 9221120237041090560
    else if infB a&&infB b&&decide (b≠9218868437227405312+sgz (fneg a)) then 9221120237041090560
    else if infB a then 9218868437227405312+sgz (fneg a)
    else if zeroB a&&zeroB b&&decide (b≠sgz (fneg a)) then cancel mode
    else if infB b||zeroB a then b
    else rsum (sgi (fneg a) (fz a*2^low74)+sgi (fneg b) (fz b*2^low74)) (-2148) mode:=by
  obtain ⟨o1,o2,o3,o4⟩:=one_facts
  unfold fmaF
  rw [o1,o2,o3,o4,xor_false,fz_one]
  simp only [Bool.or_false]
  by_cases h:infB a=true
  · obtain ⟨h1,h2⟩:=inf_not h
    rw [h,h1,h2]
    simp
  · rw [Bool.not_eq_true] at h
    rw [h]
    simp
theorem faddF_comm {a b:Nat} (ha:a<18446744073709551616) (hb:b<18446744073709551616) (mode:Int):faddF a b mode=faddF b a mode:=by
  unfold faddF
  rw [add_form,add_form,Bool.or_comm (nanB b) (nanB a)]
  cases hna:nanB a
  · cases hnb:nanB b
    · simp only [Bool.or_false,Bool.false_eq_true,if_false]
      cases hia:infB a
      · cases hib:infB b
        · simp only [Bool.false_and,Bool.false_eq_true,if_false,Bool.false_or]
          cases hza:zeroB a
          · cases hzb:zeroB b
            · simp only [Bool.false_and,Bool.false_eq_true,if_false]
              rw [Int.add_comm]
            · simp only [Bool.false_and,Bool.and_false,Bool.false_eq_true,if_false,if_true]
              obtain ⟨h1,h2,h3,h4⟩:=zero_not hzb
              have:=fma_one (c:=b) mode ha hna hza h3 h1 h2
              rw [add_form,hna,hnb,hia,hza,hib] at this
              simpa using this
          · cases hzb:zeroB b
            · simp only [Bool.false_and,Bool.and_false,Bool.false_eq_true,if_false,if_true]
              obtain ⟨h1,h2,h3,h4⟩:=zero_not hza
              have:=fma_one (c:=a) mode hb hnb hzb h3 h1 h2
              rw [add_form,hna,hnb,hib,hzb,hia] at this
              simpa using this.symm
            · have e1:=zero_val ha hza
              have e2:=zero_val hb hzb
              rw [e1,e2]
              simp only [Bool.true_and,if_true]
              by_cases hab:a=b
              · subst hab;simp
              · rw [decide_eq_true (show b≠a from fun h=>hab h.symm),decide_eq_true (show a≠b from hab)]
                simp
        · obtain ⟨h1,h2⟩:=inf_not hib
          rw [inf_val hb hib,h2]
          simp
      · obtain ⟨h1,h2⟩:=inf_not hia
        cases hib:infB b
        · rw [inf_val ha hia,h2]
          simp
        · rw [inf_val ha hia,inf_val hb hib]
          simp only [Bool.true_and,if_true]
          by_cases hab:a=b
          · subst hab;simp
          · rw [decide_eq_true (show b≠a from fun h=>hab h.symm),decide_eq_true (show a≠b from hab)]
            simp
    · simp
  · simp
theorem dig_test (u a b d q:Int):(4294967296*(u - q*a)+d<q*b)↔(u*4294967296+d<q*(a*4294967296+b)):=by
  have e:q*(a*4294967296+b)=(q*a)*4294967296+q*b:=by rw [Int.mul_add,←Int.mul_assoc]
  rw [e]
  omega
structure Dig (u a b d:Int):Prop where
  a0:2147483648≤a
  a1:a<4294967296
  b0:0≤b
  b1:b<4294967296
  u0:0≤u
  u1:u<a*4294967296+b
  d0:0≤d
  d1:d<4294967296
def digQ (u a b d:Int):Int:=(u*4294967296+d) / (a*4294967296+b)
def digR (u a b d:Int):Int:=(u*4294967296+d) % (a*4294967296+b)
section
variable {u a b d:Int}
theorem Dig.pos (h:Dig u a b d):0<a*4294967296+b:=by have:=h.a0;have:=h.b0;omega
theorem Dig.q0 (h:Dig u a b d):0≤digQ u a b d:=by
  have:=h.u0;have:=h.d0
  exact Int.ediv_nonneg (by omega) (Int.le_of_lt h.pos)
theorem Dig.q1 (h:Dig u a b d):digQ u a b d<4294967296:=by
  have h1:=h.u1;have h2:=h.d1
  refine (Int.ediv_lt_iff_lt_mul h.pos).2 ?_
  omega
theorem Dig.test (h:Dig u a b d) (q r:Int) (hr:r=u - q*a):(4294967296*r+d<q*b)↔digQ u a b d<q:=by
  rw [hr,dig_test,digQ,Int.ediv_lt_iff_lt_mul h.pos]
theorem Dig.start (h:Dig u a b d):digQ u a b d≤u / a∧u / a≤4294967297∧0≤u / a∧u - u / a*a=u % a∧0≤u % a∧u % a<a:=by
  have a0:=h.a0;have a1:=h.a1;have b0:=h.b0;have b1:=h.b1;have u0:=h.u0;have u1:=h.u1;have d0:=h.d0;have d1:=h.d1
  have e:=Int.mul_ediv_add_emod u a
  have r0:=Int.emod_nonneg u (show a≠0 by omega)
  have r1:=Int.emod_lt_of_pos u (show 0<a by omega)
  have q0:0≤u / a:=Int.ediv_nonneg u0 (by omega)
  refine ⟨?_,?_,q0,by rw [Int.mul_comm];omega,r0,r1⟩
  · have h1:digQ u a b d<u / a+1:=by
      refine (Int.ediv_lt_iff_lt_mul h.pos).2 ?_
      have e2:(u / a+1)*(a*4294967296+b)=(a*(u / a)+a)*4294967296+(u / a+1)*b:=by
        rw [Int.mul_add,←Int.mul_assoc,Int.add_mul (u / a) 1 a,Int.one_mul,Int.mul_comm (u / a) a]
      have e3:0≤(u / a+1)*b:=Int.mul_nonneg (by omega) b0
      rw [e2]
      omega
    omega
  · have h1:u / a<4294967298:=by
      refine (Int.ediv_lt_iff_lt_mul (by omega)).2 ?_
      omega
    omega
theorem Dig.stop (h:Dig u a b d) (q r:Int) (hr:r=u - q*a) (hq:q≤4294967296) (hge:4294967296≤r):¬ digQ u a b d<q:=by
  rw [←h.test q r hr]
  have b0:=h.b0;have b1:=h.b1;have d0:=h.d0
  have h1:q*b≤4294967296*b:=Int.mul_le_mul_of_nonneg_right hq b0
  omega
theorem dig_next {q r:Int} (hr:r=u - q*a):r+a=u - (q - 1)*a:=by
  rw [Int.sub_mul,Int.one_mul];omega
theorem Dig.prod (h:Dig u a b d) {q:Int} (q0:0≤q) (q1:q<4294967296):0≤q*b∧q*b<18446744073709551616:=by
  have b0:=h.b0;have b1:=h.b1
  have h1:q*b≤4294967295*b:=Int.mul_le_mul_of_nonneg_right (by omega) b0
  exact ⟨Int.mul_nonneg q0 b0,by omega⟩
theorem Dig.rest (h:Dig u a b d) (D:Int) (hD:D=a*4294967296+b):IntKind.u64.wrap (IntKind.u64.wrap (IntKind.u64.wrap (u*4294967296)+d) - IntKind.u64.wrap (digQ u a b d*D))=digR u a b d∧0≤digR u a b d∧digR u a b d<D:=by
  have e:=Int.mul_ediv_add_emod (u*4294967296+d) D
  have r0:=Int.emod_nonneg (u*4294967296+d) (show D≠0 by have:=h.pos;omega)
  have r1:=Int.emod_lt_of_pos (u*4294967296+d) (show 0<D by have:=h.pos;omega)
  have a1:=h.a1;have b1:=h.b1
  unfold digQ digR
  rw [←hD]
  refine ⟨?_,r0,r1⟩
  rw [Int.mul_comm (_ / _) D]
  generalize D*((u*4294967296+d) / D)=p at *
  generalize (u*4294967296+d) % D=r at *
  simp only [IntKind.wrap_u64]
  omega
end
theorem dig_two {T S y D u d1 d0 Q1 R1 Q0 R0:Int} (hS:0<S) (hy:0<y) (hD:D=y*S) (hT:T*S=(u*4294967296+d1)*4294967296+d0)
    (hQ1:Q1=(u*4294967296+d1) / D) (hR1:R1=(u*4294967296+d1) % D) (hQ0:Q0=(R1*4294967296+d0) / D) (hR0:R0=(R1*4294967296+d0) % D) :
    Q1*4294967296+Q0=T / y∧R0 / S=T % y:=by
  have hDp:0<D:=by rw [hD];exact Int.mul_pos hy hS
  have e1:=Int.mul_ediv_add_emod (u*4294967296+d1) D
  have e2:=Int.mul_ediv_add_emod (R1*4294967296+d0) D
  have r0:=Int.emod_nonneg (R1*4294967296+d0) (show D≠0 by omega)
  have r1:=Int.emod_lt_of_pos (R1*4294967296+d0) hDp
  rw [←hQ1,←hR1] at e1
  rw [←hQ0,←hR0] at e2
  rw [←hR0] at r0 r1
  have e3:T*S=D*(Q1*4294967296+Q0)+R0:=by
    rw [hT,Int.mul_add,←Int.mul_assoc]
    omega
  have e4:T*S / D=Q1*4294967296+Q0:=by
    rw [e3,Int.add_comm,Int.add_mul_ediv_left _ _ (by omega),Int.ediv_eq_zero_of_lt r0 r1,Int.zero_add]
  have e5:T*S % D=R0:=by
    rw [e3,Int.add_comm,Int.add_mul_emod_self_left,Int.emod_eq_of_lt r0 r1]
  rw [hD,Int.mul_ediv_mul_of_pos_left _ _ hS] at e4
  have e6:y*S*(T / y)+T % y*S=T*S:=by
    have:=Int.mul_ediv_add_emod T y
    rw [Int.mul_right_comm,←Int.add_mul,this]
  have e7:0≤T % y:=Int.emod_nonneg _ (by omega)
  have e8:T % y<y:=Int.emod_lt_of_pos _ hy
  have e9:T*S % D=T % y*S:=by
    rw [hD,←e6,Int.add_comm,Int.add_mul_emod_self_left]
    exact Int.emod_eq_of_lt (Int.mul_nonneg e7 (Int.le_of_lt hS)) (Int.mul_lt_mul_of_pos_right e8 hS)
  rw [e9] at e5
  refine ⟨e4.symm,?_⟩
  rw [←e5,Int.mul_ediv_cancel _ (by omega)]
end Go.Proofs.YtkomhemjodbkpaaGreatDoor
