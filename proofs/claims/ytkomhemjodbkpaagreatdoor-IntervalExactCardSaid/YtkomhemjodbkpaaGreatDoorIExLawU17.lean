import Derived.Test.YtkomhemjodbkpaaGreatDoorIExLawU14
import Derived.Test.YtkomhemjodbkpaaGreatDoorIExLawU16
import Derived.Test.YtkomhemjodbkpaaGreatDoorIExLawU5
import Derived.Test.YtkomhemjodbkpaaGreatDoorIExLawU8
import Derived.Test.YtkomhemjodbkpaaGreatDoorIExLawU13
import Derived.Deep.CutBlock
import Derived.Test.YtkomhemjodbkpaaGreatDoorIExLawU10
namespace Go.Proofs.YtkomhemjodbkpaaGreatDoor
def opp (mode:Int):Int:=if mode=1 then 2 else if mode=2 then 1 else mode
theorem fup_mirror (neg:Bool) (mode:Int) (kept r h:Nat) (t:Bool):fup (!neg) (opp mode) kept r h t=fup neg mode kept r h t:=by
  unfold fup opp
  by_cases h1:mode=1
  · subst h1;cases neg <;> simp
  · by_cases h2:mode=2
    · subst h2;cases neg <;> simp
    · simp only [if_neg h1,if_neg h2]
theorem fover_mirror (neg:Bool) (mode:Int):fover (!neg) (opp mode)=fover neg mode:=by
  unfold fover opp
  by_cases h1:mode=1
  · subst h1;cases neg <;> simp
  · by_cases h2:mode=2
    · subst h2;cases neg <;> simp
    · simp only [if_neg h1,if_neg h2]
theorem fla_mirror (neg:Bool) (N:Nat) (e:Int) (t:Bool) (mode:Int):fla (!neg) N e t (opp mode)=fla neg N e t mode:=by
  unfold fla
  simp only [fup_mirror,fover_mirror]
theorem fmag_sgz (s:Bool) {f:Nat} (h:f<9223372036854775808):fmag (sgz s+f)=f∧fneg (sgz s+f)=s:=by
  unfold fmag fneg sgz
  cases s
  · exact ⟨by simp;omega,by simp;omega⟩
  · exact ⟨by simp;omega,by simp⟩
theorem fnegF_sgz (s:Bool) {f:Nat} (h:f≤9218868437227405312):fnegF (sgz s+f)=sgz (!s)+f:=by
  obtain ⟨h1,h2⟩:=fmag_sgz s (show f<9223372036854775808 by omega)
  unfold fnegF nanB
  rw [h1,h2,decide_eq_false (by omega)]
  rfl
theorem fnegF_sgz0 (s:Bool):fnegF (sgz s)=sgz (!s):=by have:=fnegF_sgz s (f:=0) (by omega);simpa using this
theorem fneg_parts {a:Nat} (ha:a<18446744073709551616) (hn:nanB a=false):∃ s m,m≤9218868437227405312∧a=sgz s+m∧fnegF a=sgz (!s)+m∧fneg a=s∧fmag a=m:=by
  have h1:=nanB_not hn
  have h2:=f_parts ha
  refine ⟨fneg a,fmag a,h1,h2,?_,rfl,rfl⟩
  have:=fnegF_sgz (fneg a) h1
  rwa [←h2] at this
theorem neg_facts {a:Nat} (ha:a<18446744073709551616) (hn:nanB a=false):nanB (fnegF a)=false∧infB (fnegF a)=infB a∧zeroB (fnegF a)=zeroB a∧fz (fnegF a)=fz a∧fneg (fnegF a) = !(fneg a)∧sig (fnegF a)=sig a∧fsh (fnegF a)=fsh a∧fmag (fnegF a)=fmag a:=by
  obtain ⟨s,m,h1,h2,h3,h4,h5⟩:=fneg_parts ha hn
  obtain ⟨g1,g2⟩:=fmag_sgz (!s) (show m<9223372036854775808 by omega)
  have e1:fmag (fnegF a)=fmag a:=by rw [h3,h5,g1]
  have e2:fneg (fnegF a) = !(fneg a):=by rw [h3,h4,g2]
  have e3:sig (fnegF a)=sig a:=by unfold sig ffld;rw [e1]
  have e4:fsh (fnegF a)=fsh a:=by unfold fsh ffld;rw [e1]
  refine ⟨?_,?_,?_,?_,e2,e3,e4,e1⟩
  · unfold nanB at hn ⊢;rw [e1,hn]
  · unfold infB;rw [e1]
  · unfold zeroB;rw [e1]
  · unfold fz;rw [e3,e4]
theorem neg_nan {a:Nat} (hn:nanB a=true):fnegF a=9221120237041090560:=by unfold fnegF;rw [if_pos hn]
theorem sgi_not (s:Bool) (A:Nat):sgi (!s) A = - sgi s A:=by unfold sgi;cases s <;> simp
theorem xor_not (a b:Bool):((!a) != b) = !(a != b)∧(a != !b) = !(a != b):=by cases a <;> cases b <;> exact ⟨rfl,rfl⟩
theorem rnd_mirror {S:Int} (h:S≠0) (m mode:Int):rnd (-S) m (opp mode)=fnegF (rnd S m mode):=by
  have e1:decide (-S<0) = !(decide (S<0)):=by
    by_cases h1:S<0
    · rw [decide_eq_true h1,decide_eq_false (by omega)];rfl
    · rw [decide_eq_false h1,decide_eq_true (by omega)];rfl
  have h2:=fla_le (decide (S<0)) S.natAbs m false mode
  unfold rnd
  rw [e1,Int.natAbs_neg]
  unfold flr
  rw [fla_mirror]
  have h3:=fnegF_sgz (decide (S<0)) h2
  unfold sgz at h3
  exact h3.symm
theorem rsum_mirror {S:Int} (h:S≠0) (m mode:Int):rsum (-S) m (opp mode)=fnegF (rsum S m mode):=by
  unfold rsum
  rw [if_neg h,if_neg (by omega),rnd_mirror h]
theorem fmul_mirror {a b:Nat} (ha:a<18446744073709551616) (mode:Int):fmulF (fnegF a) b (opp mode)=fnegF (fmulF a b mode):=by
  unfold fmulF fmaF
  cases hn:nanB a
  · obtain ⟨n1,n2,n3,n4,n5,-,-,-⟩:=neg_facts ha hn
    rw [n1,n2,n3,n4,n5,(xor_not _ _).1]
    obtain ⟨s,hs⟩:∃ s,(fneg a != fneg b)=s:=⟨_,rfl⟩
    rw [hs]
    have z1:∀ s,nanB (sgz s)=false∧infB (sgz s)=false∧zeroB (sgz s)=true∧fz (sgz s)=0:=by intro s;cases s <;> decide
    obtain ⟨y1,y2,y3,y4⟩:=z1 s
    obtain ⟨x1,x2,x3,x4⟩:=z1 (!s)
    rw [y1,y2,y3,y4,x1,x2,x3,x4]
    simp only [Bool.false_or,Bool.or_false,Bool.and_false,Bool.false_and,Bool.false_eq_true,if_false,Bool.and_true,ne_eq,not_true_eq_false,decide_false]
    cases hb:nanB b
    · cases hi:(infB a||infB b)
      · cases hz:(zeroB a||zeroB b)
        · simp only [Bool.false_and,Bool.false_eq_true,if_false,Bool.false_or]
          rw [Nat.zero_mul,sgi_not,sgi_zero,sgi_zero,Int.add_zero,Int.add_zero]
          rw [Bool.or_eq_false_iff] at hz
          refine rsum_mirror ?_ _ _
          have q1:fz a≠0:=fun h=>by rw [fz_zero] at h;unfold zeroB at hz;rw [h] at hz;simp at hz
          have q2:fz b≠0:=fun h=>by rw [fz_zero] at h;unfold zeroB at hz;rw [h] at hz;simp at hz
          have q3:=Nat.mul_ne_zero q1 q2
          unfold sgi;split <;> omega
        · simp only [Bool.false_and,Bool.false_eq_true,if_false,Bool.false_or,if_true]
          exact (fnegF_sgz0 s).symm
      · cases hz:(zeroB a||zeroB b)
        · simp only [Bool.and_false,Bool.false_eq_true,if_false,Bool.false_or,if_true]
          have:=fnegF_sgz s (f:=9218868437227405312) (Nat.le_refl _)
          rw [Nat.add_comm,←this,Nat.add_comm]
        · simp only [Bool.and_self,Bool.or_true,if_true]
          decide
    · simp only [Bool.true_or,if_true]
      decide
  · rw [neg_nan hn]
    have:nanB 9221120237041090560=true:=by decide
    rw [this]
    simp only [Bool.true_or,if_true]
    decide
theorem fdiv_mirror {a b:Nat} (hb:b<18446744073709551616) (mode:Int):fdivF a (fnegF b) (opp mode)=fnegF (fdivF a b mode):=by
  unfold fdivF
  cases hn:nanB b
  · obtain ⟨n1,n2,n3,-,n5,n6,n7,-⟩:=neg_facts hb hn
    rw [n1,n2,n3,n5,n6,n7,(xor_not _ _).2]
    obtain ⟨s,hs⟩:∃ s,(fneg a != fneg b)=s:=⟨_,rfl⟩
    rw [hs]
    cases hc:(nanB a||false||infB a&&infB b||zeroB a&&zeroB b)
    · simp only [Bool.false_eq_true,if_false]
      cases hd:(infB a||zeroB b)
      · simp only [Bool.false_eq_true,if_false]
        cases he:(zeroB a||infB b)
        · simp only [Bool.false_eq_true,if_false]
          rw [fla_mirror]
          exact (fnegF_sgz s (fla_le _ _ _ _ _)).symm
        · simp only [if_true]
          exact (fnegF_sgz0 s).symm
      · simp only [if_true]
        have:=fnegF_sgz s (f:=9218868437227405312) (Nat.le_refl _)
        rw [Nat.add_comm,←this,Nat.add_comm]
    · simp only [if_true]
      decide
  · rw [neg_nan hn]
    have:nanB 9221120237041090560=true:=by decide
    rw [this]
    simp only [Bool.or_true,Bool.true_or,if_true]
    decide
theorem fla_near {N:Nat} (h0:N≠0) (e:Int) {T:Nat} (hT:1074≤T) (he : -(T:Int)≤e) (neg:Bool) (mode:Int):∃ lo b,(Rx N e T lo∧fla neg N e false mode=lo)∨(Rd N e T lo b∧fla neg N e false mode=lo+(if fraise neg mode b then 1 else 0)):=by
  rcases fla_spec h0 e hT he with ⟨lo,h⟩ | ⟨lo,b,h⟩
  · exact ⟨lo,false,Or.inl ⟨h,h.2.1 neg mode⟩⟩
  · exact ⟨lo,b,Or.inr ⟨h,h.val neg mode⟩⟩
theorem fla_mono {N N':Nat} (h0:N≠0) (h0':N'≠0) (e e':Int) {T:Nat} (hT:1074≤T) (he : -(T:Int)≤e) (he' : -(T:Int)≤e') (h:vu N e T≤vu N' e' T) (neg:Bool) (mode:Int):fla neg N e false mode≤fla neg N' e' false mode:=by
  obtain ⟨lo,b,h1⟩:=fla_near h0 e hT he neg mode
  obtain ⟨lo',b',h2⟩:=fla_near h0' e' hT he' neg mode
  have hle:lo≤lo':=by
    rcases Nat.lt_or_ge lo' lo with h3 | h3
    · exfalso
      have hlt:lo<9218868437227405312:=by
        rcases h1 with ⟨h1,_⟩ | ⟨h1,_⟩
        · exact h1.1
        · exact h1.lt
      have g1:fu lo T≤vu N e T:=by
        rcases h1 with ⟨h1,_⟩ | ⟨h1,_⟩
        · exact Nat.le_of_eq h1.2.2
        · exact Nat.le_of_lt h1.above
      have g2:vu N' e' T<fu (lo'+1) T:=by
        rcases h2 with ⟨h2,_⟩ | ⟨h2,_⟩
        · rw [←h2.2.2];exact fu_lt (by omega) (by omega)
        · rcases h2.below with h4 | h4
          · omega
          · exact h4
      have g3:fu (lo'+1) T≤fu lo T:=fu_le (by omega) (by omega)
      omega
    · exact h3
  rcases h1 with ⟨h1,e1⟩ | ⟨h1,e1⟩
  · rw [e1]
    rcases h2 with ⟨h2,e2⟩ | ⟨h2,e2⟩ <;> rw [e2] <;> omega
  · rcases Nat.lt_or_ge lo lo' with h3 | h3
    · rw [e1]
      have:lo+(if fraise neg mode b then 1 else 0)≤lo+1:=by split <;> omega
      rcases h2 with ⟨h2,e2⟩ | ⟨h2,e2⟩ <;> rw [e2] <;> omega
    · obtain rfl:lo=lo':=by omega
      rcases h2 with ⟨h2,e2⟩ | ⟨h2,e2⟩
      · exfalso
        have:=h1.above
        have:=h2.2.2
        omega
      · rw [e1,e2]
        have hb:b=true→b'=true:=by
          intro hb
          subst hb
          rcases h1.near with ⟨_,n1⟩ | ⟨n1,_⟩ | ⟨n1,n2⟩
          · rcases h2.near with ⟨n3,_⟩ | ⟨_,n3⟩ | ⟨n3,_⟩
            · exact n3
            · omega
            · omega
          · cases n1
          · rcases h2.near with ⟨n3,_⟩ | ⟨_,n3⟩ | ⟨n3,n4⟩
            · exact n3
            · omega
            · rw [n4,←n2]
        unfold fraise
        cases b with
        | true=>rw [hb rfl];exact Nat.le_refl _
        | false=>cases b' <;> repeat' split <;> first | omega | simp_all
def vs (S:Int) (e:Int) (T:Nat):Int:=S*2^(e+T).toNat
def fs (f T:Nat):Int:=if fneg f then -(fu (fmag f) T:Int) else (fu (fmag f) T:Int)
theorem vs_abs (S e:Int) (T:Nat):(vs S e T).natAbs=vu S.natAbs e T:=by
  unfold vs vu
  rw [Int.natAbs_mul,Int.natAbs_pow]
  rfl
theorem vs_sign (S e:Int) (T:Nat):(vs S e T<0↔S<0)∧(vs S e T=0↔S=0):=by
  unfold vs
  have hp:(0:Int)<2^(e+T).toNat:=Int.pow_pos (by omega)
  generalize (2:Int)^(e+T).toNat=p at *
  constructor
  · constructor
    · intro h
      rcases Int.lt_or_le S 0 with h1 | h1
      · exact h1
      · exact absurd (Int.mul_nonneg h1 (Int.le_of_lt hp)) (by omega)
    · intro h;exact Int.mul_neg_of_neg_of_pos h hp
  · constructor
    · intro h
      rcases Int.mul_eq_zero.1 h with h1 | h1
      · exact h1
      · omega
    · rintro rfl;exact Int.zero_mul _
theorem rnd_sgz (S e mode:Int):rnd S e mode=sgz (decide (S<0))+fla (decide (S<0)) S.natAbs e false mode:=rfl
theorem rnd_facts (S e mode:Int):nanB (rnd S e mode)=false∧rnd S e mode<18446744073709551616∧fneg (rnd S e mode)=decide (S<0)∧fmag (rnd S e mode)=fla (decide (S<0)) S.natAbs e false mode:=by
  have h:=fla_le (decide (S<0)) S.natAbs e false mode
  obtain ⟨h1,h2⟩:=fmag_sgz (decide (S<0)) (show fla (decide (S<0)) S.natAbs e false mode<9223372036854775808 by omega)
  exact ⟨(nan_mag _ h).1,(nan_mag _ h).2,h2,h1⟩
def rz (S e mode:Int):Nat:=if S=0 then 0 else rnd S e mode
theorem rz_facts (S e mode:Int):nanB (rz S e mode)=false∧rz S e mode<18446744073709551616:=by
  unfold rz
  split
  · decide
  · exact ⟨(rnd_facts S e mode).1,(rnd_facts S e mode).2.1⟩
theorem rank_sign (S e mode:Int):(S<0→frank (rz S e mode) = -(fla true S.natAbs e false mode:Int))∧(0<S→frank (rz S e mode)=(fla false S.natAbs e false mode:Int))∧(S=0→frank (rz S e mode)=0):=by
  refine ⟨fun h=>?_,fun h=>?_,fun h=>?_⟩
  · unfold rz;rw [if_neg (by omega)]
    obtain ⟨-,-,h3,h4⟩:=rnd_facts S e mode
    unfold frank
    rw [h3,h4,decide_eq_true h,if_pos rfl]
  · unfold rz;rw [if_neg (by omega)]
    obtain ⟨-,-,h3,h4⟩:=rnd_facts S e mode
    unfold frank
    rw [h3,h4,decide_eq_false (by omega),if_neg (by simp)]
  · unfold rz;rw [if_pos h];decide
theorem rz_mono {S S' e e':Int} {T:Nat} (hT:1074≤T) (he : -(T:Int)≤e) (he' : -(T:Int)≤e') (h:vs S e T≤vs S' e' T) (mode:Int):frank (rz S e mode)≤frank (rz S' e' mode):=by
  obtain ⟨r1,r2,r3⟩:=rank_sign S e mode
  obtain ⟨q1,q2,q3⟩:=rank_sign S' e' mode
  obtain ⟨s1,s2⟩:=vs_sign S e T
  obtain ⟨s3,s4⟩:=vs_sign S' e' T
  have a1:=vs_abs S e T
  have a2:=vs_abs S' e' T
  rcases Int.lt_trichotomy S 0 with h1 | h1 | h1
  · rw [r1 h1]
    rcases Int.lt_trichotomy S' 0 with h2 | h2 | h2
    · rw [q1 h2]
      have:=fla_mono (N:=S'.natAbs) (N':=S.natAbs) (by omega) (by omega) e' e hT he' he (by rw [←a1,←a2];omega) true mode
      omega
    · rw [q3 h2];omega
    · rw [q2 h2];omega
  · rw [r3 h1]
    have h2:¬ S'<0:=by rw [←s3];have:=s2.2 h1;omega
    rcases Int.lt_or_eq_of_le (show 0≤S' by omega) with h3 | h3
    · rw [q2 h3];omega
    · rw [q3 h3.symm];exact Int.le_refl _
  · rw [r2 h1]
    have h2:0<S':=by omega
    rw [q2 h2]
    have:=fla_mono (N:=S.natAbs) (N':=S'.natAbs) (by omega) (by omega) e e' hT he he' (by rw [←a1,←a2];omega) false mode
    omega
theorem fs_rank {a b T:Nat} (ha:nanB a=false) (hb:nanB b=false):(fs a T<fs b T↔frank a<frank b)∧(fs a T=fs b T↔frank a=frank b):=by
  have h1:=nanB_not ha
  have h2:=nanB_not hb
  have l1:=fu_lt_iff (T:=T) h1 h2
  have l2:=fu_lt_iff (T:=T) h2 h1
  have z1:=fu_lt_iff (T:=T) (show 0≤9218868437227405312 by omega) h1
  have z2:=fu_lt_iff (T:=T) (show 0≤9218868437227405312 by omega) h2
  rw [fu_zero] at z1 z2
  unfold fs frank
  constructor <;> cases fneg a <;> cases fneg b <;> simp <;> omega
theorem rank_sgz (s:Bool) {f:Nat} (h:f≤9218868437227405312):frank (sgz s+f)=if s then -(f:Int) else (f:Int):=by
  obtain ⟨h1,h2⟩:=fmag_sgz s (show f<9223372036854775808 by omega)
  unfold frank
  rw [h1,h2]
structure Enc (S e:Int) (T lo hi near:Nat):Prop where
  fl:finB lo=true→fs lo T≤vs S e T
  fh:finB hi=true→vs S e T≤fs hi T
  loi:finB lo=false→lo=18442240474082181120
  hii:finB hi=false→hi=9218868437227405312
  same:(finB lo=true∧fs lo T=vs S e T∨finB hi=true∧fs hi T=vs S e T)→lo=hi∧near=lo
  next:(finB lo=true→fs lo T≠vs S e T)→(finB hi=true→fs hi T≠vs S e T)→frank hi=frank lo+1∧(near=lo∨near=hi)
theorem fz_parts (f:Nat):fz f=sig f*2^fsh f:=rfl
theorem fz_mag (f:Nat):fz (fmag f)=fz f:=by
  have:fmag (fmag f)=fmag f:=Nat.mod_eq_of_lt (fmag_lt f)
  unfold fz sig fsh ffld
  rw [this]
theorem fzs_sgi (f:Nat):fzs f=sgi (fneg f) (fz f):=rfl
theorem fs_fzs (f:Nat):fs f 1074=fzs f:=by
  unfold fs fzs fu
  rw [fz_mag]
  simp
theorem sgi_mul (s:Bool) (A k:Nat):sgi s (A*2^k)=sgi s A*2^k:=by
  unfold sgi
  have:((A*2^k:Nat):Int)=(A:Int)*2^k:=by rw [Int.natCast_mul,Int.natCast_pow];rfl
  cases s
  · simp only [Bool.false_eq_true,if_false];exact this
  · simp only [if_true];rw [this,Int.neg_mul]
theorem rnd_up {S:Int} (h:S≠0) (k:Nat) (e mode:Int):rnd (S*2^k) (e - k) mode=rnd S e mode:=by
  have hp:(0:Int)<2^k:=Int.pow_pos (by omega)
  have e1:decide (S*2^k<0)=decide (S<0):=by
    refine decide_eq_decide.2 ⟨fun h1=>?_,fun h1=>Int.mul_neg_of_neg_of_pos h1 hp⟩
    rcases Int.lt_or_le S 0 with h2 | h2
    · exact h2
    · exact absurd (Int.mul_nonneg h2 (Int.le_of_lt hp)) (by omega)
  have e2:(S*2^k).natAbs=S.natAbs*2^k:=by rw [Int.natAbs_mul,Int.natAbs_pow];rfl
  rw [rnd_sgz,rnd_sgz,e1,e2]
  congr 1
  exact fla_eq _ (a:=0) (b:=k) mode (Nat.mul_ne_zero (by omega) (Nat.pos_iff_ne_zero.1 (Nat.pow_pos (by omega)))) (by rw [Nat.pow_zero,Nat.mul_one]) (by omega)
theorem fz_self {b:Nat} (hb:finB b=true) (hz:zeroB b=false) (hl:b<18446744073709551616) (mode:Int):rnd (fzs b) (-1074) mode=b:=by
  have h0:fmag b≠0:=of_decide_eq_false hz
  have h1:fmag b<9218868437227405312:=of_decide_eq_true hb
  have h2:fz b≠0:=fun h=>h0 ((fz_zero b).1 h)
  have hp:=f_parts hl
  rw [fzs_sgi,rnd_sgi _ h2,fla_fz _ h0 h1]
  exact hp.symm
theorem zero_fzs {a:Nat} (h:zeroB a=true):fzs a=0:=by
  unfold fzs
  rw [(zero_not h).2.2.2]
  split <;> rfl
theorem nz_fzs {a:Nat} (h:zeroB a=false):fzs a≠0:=by
  have h0:fmag a≠0:=of_decide_eq_false h
  have h2:fz a≠0:=fun h=>h0 ((fz_zero a).1 h)
  unfold fzs
  split <;> omega
theorem pow_low_ne:(2:Int)^low74≠0:=Int.ne_of_gt (Int.pow_pos (by omega))
theorem add_fin {a b:Nat} (mode:Int) (ha:finB a=true) (hb:finB b=true) (hbl:b<18446744073709551616) :
    (fzs a+fzs b=0→fmag (faddF a b mode)=0)∧(fzs a+fzs b≠0→faddF a b mode=rnd (fzs a+fzs b) (-1074) mode):=by
  obtain ⟨a1,a2⟩:=fin_not ha
  obtain ⟨b1,b2⟩:=fin_not hb
  unfold faddF
  rw [add_form,a1,a2,b1,b2]
  simp only [Bool.or_false,Bool.false_and,Bool.false_or,Bool.false_eq_true,if_false]
  cases hza:zeroB a
  · simp only [Bool.false_and,Bool.false_eq_true,if_false]
    rw [sgi_mul,sgi_mul,←Int.add_mul,←fzs_sgi,←fzs_sgi]
    unfold rsum
    constructor
    · intro h
      rw [h,if_pos (Int.zero_mul _)]
      exact (cancel_num mode).2.2
    · intro h
      rw [if_neg (Int.mul_ne_zero h pow_low_ne),show (-2148:Int) = -1074 - (low74:Nat) from rfl,rnd_up h]
  · cases hzb:zeroB b
    · simp only [Bool.true_and,Bool.false_and,Bool.false_eq_true,if_false,if_true]
      rw [zero_fzs hza,Int.zero_add]
      exact ⟨fun h=>absurd h (nz_fzs hzb),fun _=>(fz_self hb hzb hbl mode).symm⟩
    · rw [zero_fzs hza,zero_fzs hzb]
      refine ⟨fun _=>?_,fun h=>absurd rfl h⟩
      simp only [Bool.true_and,if_true]
      split
      · exact (cancel_num mode).2.2
      · exact (zero_not hzb).2.2.1
theorem fin_or {a:Nat} (hn:nanB a=false):finB a=true∨infB a=true:=by
  have h1:=nanB_not hn
  unfold finB infB
  rw [decide_eq_true_iff,decide_eq_true_iff]
  omega
theorem fneg_fzs {a:Nat} (ha:a<18446744073709551616) (hf:finB a=true):fzs (fnegF a) = -fzs a∧finB (fnegF a)=true:=by
  obtain ⟨n1,n2,n3,n4,n5,-,-,n8⟩:=neg_facts ha (fin_not hf).1
  constructor
  · rw [fzs_sgi,fzs_sgi,n4,n5,sgi_not]
  · unfold finB at hf ⊢;rw [n8];exact hf
structure Around (x:Int) (p k:Nat) (q r:Int):Prop where
  eq:x=q*2^(k+1)+r
  pos:0<r
  lt:r<2^(k+1)
  lo : -2^p≤q
  hi:q+1≤2^p
open Go.RowKit
def fdy (f:Nat):Dy:=if finB f then dmk (fzs f) (-1074) else none
theorem fdy_parts {f t:Nat} (hf:finB f=true) (h0:sig f≠0) (ht:IsTz (sig f) t):fdy f=some (if fneg f then -((sig f / 2^t:Nat):Int) else ((sig f / 2^t:Nat):Int),-1074+(fsh f:Int)+t)∧sig f / 2^t<9007199254740992∧sig f / 2^t≠0:=by
  rcases ht with ⟨h,_⟩ | ⟨_,m,hm⟩
  · exact absurd h h0
  · have hp:0<2^t:=Nat.pow_pos (by omega)
    have hd:sig f / 2^t=2*m+1:=by rw [hm,Nat.mul_div_cancel_left _ hp]
    have hlt:sig f / 2^t<9007199254740992:=Nat.lt_of_le_of_lt (Nat.div_le_self _ _) (sig_lt f)
    refine ⟨?_,hlt,by omega⟩
    rw [hd] at hlt ⊢
    have hfin:fmag f<9218868437227405312:=of_decide_eq_true hf
    have hsh:fsh f≤2045:=by unfold fsh ffld;omega
    have ht52:t<53:=by
      have h1:2^t<2^53:=by
        have h2:2^t≤sig f:=by rw [hm];exact Nat.le_mul_of_pos_right _ (by omega)
        exact Nat.lt_of_le_of_lt h2 (sig_lt f)
      exact (Nat.pow_lt_pow_iff_right (by omega)).1 h1
    have hz:fz f=(2*m+1)*2^(t+fsh f):=by rw [Nat.pow_add,←Nat.mul_assoc,Nat.mul_comm (2*m+1),←hm];rfl
    have hc:((fz f:Nat):Int)=((2*m+1:Nat):Int)*2^(t+fsh f):=by rw [hz,Int.natCast_mul,Int.natCast_pow];rfl
    have hv:fzs f=(if fneg f then -((2*m+1:Nat):Int) else ((2*m+1:Nat):Int))*2^(t+fsh f):=by
      unfold fzs
      rw [hc]
      cases fneg f
      · rfl
      · simp only [if_true];rw [Int.neg_mul]
    have hb:blen (2*m+1)≤53:=blen_le_of_lt (show 2*m+1<2^53 from hlt)
    unfold fdy
    rw [hf,if_pos rfl,hv,dmk_shift]
    rw [show (-1074:Int)+((t+fsh f:Nat):Int) = -1074+(fsh f:Int)+t by omega]
    refine dmk_norm (Or.inr ⟨?_,by omega,?_⟩)
    · split <;> omega
    · have e1:(if fneg f then -((2*m+1:Nat):Int) else ((2*m+1:Nat):Int)).natAbs=2*m+1:=by split <;> omega
      rw [e1]
      omega
theorem fdy_zero {f:Nat} (h:zeroB f=true):fdy f=some (0,0):=by
  have h1:fmag f=0:=of_decide_eq_true h
  have h2:fz f=0:=(fz_zero f).2 h1
  unfold fdy finB fzs
  rw [decide_eq_true (by omega),if_pos rfl,h2]
  have:(if fneg f then -((0:Nat):Int) else ((0:Nat):Int))=0:=by split <;> rfl
  rw [this,dmk_zero]
theorem fz_bound {f:Nat} (h:finB f=true):fz f<2^(52+low46):=by
  rw [Nat.pow_add,←fz_inf,←fz_mag f]
  exact fz_lt (of_decide_eq_true h) (Nat.le_refl _)
theorem low46_le:52+low46=2098:=rfl
theorem fzs_abs (f:Nat):(fzs f).natAbs=fz f:=by unfold fzs;split <;> omega
theorem fdy_is {f:Nat} (h:finB f=true):Is (fdy f) 1074 (fzs f):=by
  unfold fdy
  rw [h,if_pos rfl]
  exact Is.of_dmk (S:=1074) (B:=52+low46) (by omega) (by rw [fzs_abs];exact fz_bound h) (by rw [low46_le];omega)
theorem fin_nan {f:Nat} (h:finB f=true):nanB f=false:=by
  have h1:fmag f<9218868437227405312:=of_decide_eq_true h
  exact decide_eq_false (by omega)
open Go.RowKit
set_option maxRecDepth 100000 in
theorem refFin_any (f:Nat) (hf:f<18446744073709551616) (b:Bool) (hb:finB f=b) (w:World) :
    Calls Tryz.prog 40 #[.int .u64 (f:Int)] w fun e w'=>e=.returned (.bool b)∧w=w':=by
  have h1:(f:Int) / 4503599627370496=((f / 4503599627370496:Nat):Int):=(Int.natCast_ediv _ _).symm
  have h2:=bits_and_u64_nat (f / 4503599627370496) 2047 (by omega) (by omega)
  rw [show (2047:Nat)=2^11 - 1 from rfl,Nat.and_two_pow_sub_one_eq_mod] at h2
  have h3:(((f / 4503599627370496 % 2^11:Nat):Int) != 2047)=b:=by
    rw [←hb]
    unfold finB fmag
    by_cases h:f % 9223372036854775808<9218868437227405312
    · rw [decide_eq_true h];simp;omega
    · rw [decide_eq_false h];simp;omega
  obtain ⟨q,hq⟩:∃ q:Nat,f / 4503599627370496 % 2^11=q:=⟨_,rfl⟩
  rw [hq] at h2 h3
  have h2:bits BinOp.and IntKind.u64 ((f / 4503599627370496:Nat):Int) 2047=(q:Int):=h2
  rw [←h1] at h2
  clear hb hq h1
  cases b
  all_goals
    go_enter Tryz.func40,Tryz.ntmps40
    go_wp2
    go_ret
    exact ⟨ret_bool (by first | rfl | exact h3),rfl⟩
open Go.RowKit
theorem slice_two (w:World) (lo hi:Int) (h0:0≤lo∧lo<4294967296) (h1:0≤hi∧hi<4294967296) :
    ∃ W,W=w.alloc (.cells #[.int .u32 lo,.int .u32 hi] 72)∧Ext w W∧Sl W (some ⟨w.heap.size,0,none⟩) 2 2 [lo,hi]∧w.heap.size+1≤W.heap.size:=by
  refine ⟨_,rfl,(Below.refl _ w).alloc (Nat.le_refl _) _,?_,by simp⟩
  have hb:Blk (w.alloc (.cells #[.int .u32 lo,.int .u32 hi] 72)) w.heap.size [lo,hi]:=by
    have:=heap_alloc_new w (.cells #[.int .u32 lo,.int .u32 hi] 72)
    simpa [Blk] using this
  exact hb.sl (Wf.cons h0 (Wf.cons h1 Wf.nil)) rfl (by omega) (Nat.le_refl _)
theorem fdy_make {f S k:Nat} {E:Int} (hf:finB f=true) (hS:sig f=S) (hk:fsh f=k) (hE:E = -1074+(k:Int)):dmk (if fneg f then -(S:Int) else (S:Int)) E=fdy f:=by
  unfold fdy
  rw [hf,if_pos rfl]
  have h1:fzs f=(if fneg f then -(S:Int) else (S:Int))*2^k:=by
    unfold fzs fz
    rw [hS,hk,Int.natCast_mul,Int.natCast_pow]
    cases fneg f
    · rfl
    · simp only [if_true];rw [Int.neg_mul];rfl
  rw [h1,dmk_shift,hE]
theorem sgd_two {b:Bool} {S:Nat}:sgd b [(S:Int) % 4294967296,(S:Int) / 4294967296]=if b then -(S:Int) else (S:Int):=by
  unfold sgd
  rw [num_two]
set_option maxRecDepth 100000 in
set_option maxHeartbeats 4000000 in
theorem refOf_any (f:Nat) (hf:f<18446744073709551616) (w:World) (hT:Table w) :
    Calls Tryz.prog 91 #[.int .u64 (f:Int)] w fun e w'=>∃ v,e=.returned v∧Dn w' v (fdy f)∧Ext w w':=by
  have HT:=Lib.hid hT
  clear hT
  cases hfin:finB f with
  | false =>
    have CF:=Lib.hid (refFin_any f hf false hfin)
    have HD:=Lib.hid (show fdy f=none by unfold fdy;rw [hfin];rfl)
    clear hfin hf
    go_enter Tryz.func91,Tryz.ntmps91
    go_upto_region 1 with fail
    obtain ⟨W,hW,hB,r1,hz⟩:=dbox_new w false false none 0 0 0
    rw [←hW]
    clear hW
    generalize hBe:w.heap.size=B at *
    have HBe:=Lib.hid hBe
    clear hBe hz
    go_wp2_with fail
    refine (CF.out _).mono ?_
    rintro e w1 ⟨rfl,rfl⟩
    go_wp2_with fail
    refine (refBad_any _).mono ?_
    rintro e w1 ⟨rfl,hw1⟩
    have c1:=r1.below hw1
    obtain ⟨hB2,hB2'⟩:=bnext hB (Nat.le_of_lt r1.lt) hw1
    have q0:=c1.c0
    have q1:=c1.c1
    have q2:=c1.c2
    have q3:=c1.c3
    have f0:=c1.f 0
    have f1:=c1.f 1
    have f2:=c1.f 2
    have f3:=c1.f 3
    have hres:=dn_stored c1 (dn_bad w1) w hB2 (Nat.le_refl _)
    have z3:=c1.stored true false none 0 0 0
    have z0:=z3.c0
    have z1:=z3.c1
    have z2:=z3.c2
    have z4:=z3.c3
    have HRES:=Lib.hid hres;clear hres z3
    go_wp2
    refine bodyPost_ret (v:=.agg #[.bool true,.bool false,.slice none 0 0,.int .i64 0]) (by simp [results,Tryz.results91,go_sem,z0,z1,z2,z4]) rfl ⟨_,rfl,?_,?_⟩
    · rw [HD.out];exact HRES.out.1
    · show Below _ _ _;rw [HBe.out];exact HRES.out.2
  | true =>
    have CF:=Lib.hid (refFin_any f hf true hfin)
    obtain ⟨ng,hng⟩:∃ ng,fneg f=ng:=⟨_,rfl⟩
    have CM:=Lib.hid (refMinus_any f hf ng hng)
    obtain ⟨h1,h2⟩:=and_fields f hf
    obtain ⟨q,hq⟩:∃ q:Nat,f / 4503599627370496 % 2048=q:=⟨_,rfl⟩
    obtain ⟨r,hr⟩:∃ r:Nat,f % 4503599627370496=r:=⟨_,rfl⟩
    obtain ⟨hm,hq',hr'⟩:=kind_fields hq hr
    rw [hq] at h1
    rw [hr] at h2
    have hfld:ffld f=q:=by unfold ffld;rw [hm];omega
    have hfr:fmag f % 4503599627370496=r:=by rw [hm];omega
    by_cases c:q=0
    · subst c
      have HDY:=Lib.hid (fdy_make (f:=f) (S:=r) (k:=0) (E:=-1074) hfin (by unfold sig;rw [if_pos hfld,hm];omega) (by unfold fsh;rw [hfld]) (by omega))
      rw [hng] at HDY
      have hS0:(r:Int)<9007199254740992:=by omega
      clear hfld hfr hm hq hr hng hf hfin hq' hr'
      go_enter Tryz.func91,Tryz.ntmps91
      go_upto_region 1 with fail
      obtain ⟨W,hW,hB,r1,hz⟩:=dbox_new w false false none 0 0 0
      rw [←hW]
      clear hW
      have HT:=Lib.hid (HT.out.below hB)
      generalize hBe:w.heap.size=B at *
      have HBe:=Lib.hid hBe
      clear hBe hz
      go_wp2_with fail
      refine (CF.out _).mono ?_
      rintro e w1 ⟨rfl,rfl⟩
      go_wp2_with fail
      refine (CM.out _).mono ?_
      rintro e w1 ⟨rfl,rfl⟩
      go_wp2_with fail
      obtain ⟨V,hV,hE,hsl,hz⟩:=slice_two W ((r:Int) % 4294967296) ((r:Int) / 4294967296) (by omega) (by omega)
      rw [←hV]
      clear hV
      have hbg:Bg V ng (some ⟨W.heap.size,0,none⟩) 2 2 (if ng then -(r:Int) else (r:Int)):=⟨⟨_,hsl,sgd_two.symm⟩,by omega⟩
      have HT:=Lib.hid (HT.out.below hE)
      have c1:=r1.below hE
      obtain ⟨hB2,hB2'⟩:=bnext hB (Nat.le_of_lt r1.lt) hE
      have hbl:blen (if ng then -(r:Int) else (r:Int)).natAbs≤1000000:=by
        have h:(if ng then -(r:Int) else (r:Int)).natAbs<2^53:=by cases ng <;> simp <;> omega
        exact Nat.le_trans (blen_le_of_lt h) (by omega)
      refine (refMake_any ng _ 2 2 _ (-1074) V hbg hbl (by omega) (by omega) HT.out).mono ?_
      rintro e w5 ⟨v,rfl,hr2,hw5⟩
      rw [HDY.out] at hr2
      have c1:=c1.below hw5
      obtain ⟨hB4,hB4'⟩:=bnext hB2 hB2' hw5
      obtain ⟨rb,rn,ro2,rk,rc,re,rfl⟩:=hr2.parts
      clear hbg hbl hsl hE hw5 hB2 hB r1 h1 h2
      have q0:=c1.c0
      have q1:=c1.c1
      have q2:=c1.c2
      have q3:=c1.c3
      have f0:=c1.f 0
      have f1:=c1.f 1
      have f2:=c1.f 2
      have f3:=c1.f 3
      have hres:=dn_stored c1 hr2 w hB4 (Nat.le_refl _)
      have z3:=c1.stored rb rn ro2 rk rc re
      have z0:=z3.c0
      have z1:=z3.c1
      have z2:=z3.c2
      have z4:=z3.c3
      have HRES:=Lib.hid hres;clear hres z3
      go_wp2
      refine bodyPost_ret (v:=.agg #[.bool rb,.bool rn,.slice ro2 rk rc,.int .i64 re]) (by simp [results,Tryz.results91,go_sem,z0,z1,z2,z4]) rfl ⟨_,rfl,?_,?_⟩
      · exact HRES.out.1
      · show Below _ _ _;rw [HBe.out];exact HRES.out.2
    · have hor:=or_hidden hr'
      obtain ⟨S,hS⟩:∃ S:Nat,r+4503599627370496=S:=⟨_,rfl⟩
      rw [hS] at hor
      have HDY:=Lib.hid (fdy_make (f:=f) (S:=S) (k:=q - 1) (E:=(q:Int) - 1075) hfin (by unfold sig;rw [if_neg (by rw [hfld];exact c),hfr,hS]) (by unfold fsh;rw [hfld]) (by omega))
      rw [hng] at HDY
      have hS0:(S:Int)<9007199254740992:=by omega
      have hq0:0<q:=by omega
      have hq1:q<2048:=by omega
      clear hfld hfr hm hq hr hng hf hfin hq' hr' hS c
      go_enter Tryz.func91,Tryz.ntmps91
      go_upto_region 1 with fail
      obtain ⟨W,hW,hB,r1,hz⟩:=dbox_new w false false none 0 0 0
      rw [←hW]
      clear hW
      have HT:=Lib.hid (HT.out.below hB)
      generalize hBe:w.heap.size=B at *
      have HBe:=Lib.hid hBe
      clear hBe hz
      go_wp2_with fail
      refine (CF.out _).mono ?_
      rintro e w1 ⟨rfl,rfl⟩
      go_upto_region 4 with fail
      go_upto_region 5 with fail
      go_upto_region 6 with fail
      go_upto_region 7 with fail
      go_upto_region 8 with fail
      go_wp2_with fail
      refine (CM.out _).mono ?_
      rintro e w1 ⟨rfl,rfl⟩
      go_wp2_with fail
      obtain ⟨V,hV,hE,hsl,hz⟩:=slice_two W ((S:Int) % 4294967296) ((S:Int) / 4294967296) (by omega) (by omega)
      rw [←hV]
      clear hV
      have hbg:Bg V ng (some ⟨W.heap.size,0,none⟩) 2 2 (if ng then -(S:Int) else (S:Int)):=⟨⟨_,hsl,sgd_two.symm⟩,by omega⟩
      have HT:=Lib.hid (HT.out.below hE)
      have c1:=r1.below hE
      obtain ⟨hB2,hB2'⟩:=bnext hB (Nat.le_of_lt r1.lt) hE
      have hbl:blen (if ng then -(S:Int) else (S:Int)).natAbs≤1000000:=by
        have h:(if ng then -(S:Int) else (S:Int)).natAbs<2^53:=by cases ng <;> simp <;> omega
        exact Nat.le_trans (blen_le_of_lt h) (by omega)
      refine (refMake_any ng _ 2 2 _ ((q:Int) - 1075) V hbg hbl (by omega) (by omega) HT.out).mono ?_
      rintro e w5 ⟨v,rfl,hr2,hw5⟩
      rw [HDY.out] at hr2
      have c1:=c1.below hw5
      obtain ⟨hB4,hB4'⟩:=bnext hB2 hB2' hw5
      obtain ⟨rb,rn,ro2,rk,rc,re,rfl⟩:=hr2.parts
      clear hbg hbl hsl hE hw5 hB2 hB r1 h1 h2
      have q0:=c1.c0
      have q1:=c1.c1
      have q2:=c1.c2
      have q3:=c1.c3
      have f0:=c1.f 0
      have f1:=c1.f 1
      have f2:=c1.f 2
      have f3:=c1.f 3
      have hres:=dn_stored c1 hr2 w hB4 (Nat.le_refl _)
      have z3:=c1.stored rb rn ro2 rk rc re
      have z0:=z3.c0
      have z1:=z3.c1
      have z2:=z3.c2
      have z4:=z3.c3
      have HRES:=Lib.hid hres;clear hres z3
      go_wp2
      refine bodyPost_ret (v:=.agg #[.bool rb,.bool rn,.slice ro2 rk rc,.int .i64 re]) (by simp [results,Tryz.results91,go_sem,z0,z1,z2,z4]) rfl ⟨_,rfl,?_,?_⟩
      · exact HRES.out.1
      · show Below _ _ _;rw [HBe.out];exact HRES.out.2
end Go.Proofs.YtkomhemjodbkpaaGreatDoor
