import Derived.Test.YtkomhemjodbkpaaGreatDoorIExLawU21
import Derived.Test.YtkomhemjodbkpaaGreatDoorIExLawU8
import Derived.Test.YtkomhemjodbkpaaGreatDoorIExLawU7
import Derived.Test.YtkomhemjodbkpaaGreatDoorIExLawU9
import Derived.Test.YtkomhemjodbkpaaGreatDoorIExLawU14
import Derived.Test.YtkomhemjodbkpaaGreatDoorIExLawU4
import Derived.Test.YtkomhemjodbkpaaGreatDoorIExLawU5
import Derived.Test.YtkomhemjodbkpaaGreatDoorIExLawU13
import Derived.Test.YtkomhemjodbkpaaGreatDoorIExLawU17
import Derived.Test.YtkomhemjodbkpaaGreatDoorIExLawU16
import Derived.Deep.CutBlock
namespace Go.Proofs.YtkomhemjodbkpaaGreatDoor
open Go.RowKit
theorem fin_of {c:Nat} (hc:c<18446744073709551616) (h1:nanB c=false) (h2:c≠9218868437227405312) (h3:c≠18442240474082181120):finB c=true:=by
  have h:=of_decide_eq_false h1
  unfold finB
  apply decide_eq_true
  unfold fmag at h ⊢
  omega
open Go.RowKit
def contF (lo hi f:Nat):Bool:=validF lo hi&&finB f&&decide (frank lo≤frank f)&&decide (frank f≤frank hi)
theorem rank_is_inf {f:Nat} (hf:f<18446744073709551616):frank f=9218868437227405312↔f=9218868437227405312:=by
  unfold frank fneg fmag
  by_cases h:9223372036854775808≤f
  · rw [decide_eq_true h,if_pos rfl];omega
  · rw [decide_eq_false h,if_neg (by simp)];omega
theorem rank_is_ninf {f:Nat} (hf:f<18446744073709551616):frank f = -9218868437227405312↔f=18442240474082181120:=by
  unfold frank fneg fmag
  by_cases h:9223372036854775808≤f
  · rw [decide_eq_true h,if_pos rfl];omega
  · rw [decide_eq_false h,if_neg (by simp)];omega
theorem rank_le {f:Nat} (h:nanB f=false) : -9218868437227405312≤frank f∧frank f≤9218868437227405312:=by
  have h1:¬ 9218868437227405312<fmag f:=of_decide_eq_false h
  unfold frank
  split <;> omega
theorem valid_iff {lo hi:Nat} (hl:lo<18446744073709551616) (hh:hi<18446744073709551616):validF lo hi=true↔nanB lo=false∧nanB hi=false∧frank lo≤frank hi∧frank lo<9218868437227405312∧-9218868437227405312<frank hi:=by
  unfold validF
  simp only [Bool.and_eq_true,Bool.not_eq_true',decide_eq_true_eq]
  constructor
  · rintro ⟨⟨⟨⟨h1,h2⟩,h3⟩,h4⟩,h5⟩
    have a1:=rank_le h1
    have a2:=rank_le h2
    refine ⟨h1,h2,h3,?_,?_⟩
    · have:frank lo≠9218868437227405312:=fun e=>h4 ((rank_is_inf hl).1 e)
      omega
    · have:frank hi≠-9218868437227405312:=fun e=>h5 ((rank_is_ninf hh).1 e)
      omega
  · rintro ⟨h1,h2,h3,h4,h5⟩
    refine ⟨⟨⟨⟨h1,h2⟩,h3⟩,fun e=>?_⟩,fun e=>?_⟩
    · have:=(rank_is_inf hl).2 e;omega
    · have:=(rank_is_ninf hh).2 e;omega
theorem fin_rank_lt {f:Nat} (h:finB f=true) : -9218868437227405312<frank f∧frank f<9218868437227405312:=by
  have h1:fmag f<9218868437227405312:=of_decide_eq_true h
  unfold frank
  split <;> omega
theorem plain_facts (f:Nat):nanB (plainF f)=nanB f∧frank (plainF f)=frank f:=by
  unfold plainF
  split
  · rename_i h;subst h;decide
  · exact ⟨rfl,rfl⟩
theorem plainF_lt {f:Nat} (h:f<18446744073709551616):plainF f<18446744073709551616:=by unfold plainF;split <;> omega
theorem more_step {m f:Nat} (hm:nanB m=false) (hf:nanB f=false):nanB (if lessF m f then f else m)=false∧frank (if lessF m f then f else m)=max (frank m) (frank f):=by
  unfold lessF
  rw [hm,hf]
  by_cases h:frank m<frank f
  · rw [decide_eq_true h];exact ⟨hf,by simp;omega⟩
  · rw [decide_eq_false h];exact ⟨hm,by simp;omega⟩
theorem less_step {m f:Nat} (hm:nanB m=false) (hf:nanB f=false):nanB (if lessF f m then f else m)=false∧frank (if lessF f m then f else m)=min (frank m) (frank f):=by
  unfold lessF
  rw [hm,hf]
  by_cases h:frank f<frank m
  · rw [decide_eq_true h];exact ⟨hf,by simp;omega⟩
  · rw [decide_eq_false h];exact ⟨hm,by simp;omega⟩
theorem great_two {a c:Nat} (ha:nanB a=false) (hc:nanB c=false):nanB (greatF [a,c])=false∧frank (greatF [a,c])=max (frank a) (frank c):=by
  obtain ⟨h1,h2⟩:=more_step (m:=18442240474082181120) (by decide) ha
  obtain ⟨h3,h4⟩:=more_step h1 hc
  refine ⟨h3,?_⟩
  show frank (if lessF (if lessF 18442240474082181120 a then a else 18442240474082181120) c then c else (if lessF 18442240474082181120 a then a else 18442240474082181120))=_
  rw [h4,h2,show frank 18442240474082181120 = -9218868437227405312 by decide]
  have:=rank_le ha
  omega
theorem least_two {b d:Nat} (hb:nanB b=false) (hd:nanB d=false):nanB (leastF [b,d])=false∧frank (leastF [b,d])=min (frank b) (frank d):=by
  obtain ⟨h1,h2⟩:=less_step (m:=9218868437227405312) (by decide) hb
  obtain ⟨h3,h4⟩:=less_step h1 hd
  refine ⟨h3,?_⟩
  show frank (if lessF d (if lessF b 9218868437227405312 then b else 9218868437227405312) then d else (if lessF b 9218868437227405312 then b else 9218868437227405312))=_
  rw [h4,h2,show frank 9218868437227405312=9218868437227405312 by decide]
  have:=rank_le hb
  omega
theorem two_lt {a c:Nat} (ha:a<18446744073709551616) (hc:c<18446744073709551616):(∀ x∈[a,c],x<18446744073709551616):=by
  intro x hx
  rcases List.mem_cons.1 hx with rfl | hx
  · exact ha
  · rcases List.mem_cons.1 hx with rfl | hx
    · exact hc
    · cases hx
def hullLo (a c:Nat):Nat:=plainF (leastF [a,c])
def hullHi (b d:Nat):Nat:=plainF (greatF [b,d])
theorem less_rank {a b:Nat} (ha:nanB a=false) (hb:nanB b=false):lessF a b=decide (frank a<frank b):=by unfold lessF;rw [ha,hb];rfl
section
variable {a b c d f:Nat} (ha:a<18446744073709551616) (hb:b<18446744073709551616) (hc:c<18446744073709551616) (hd:d<18446744073709551616)
include ha hb hc hd
end
theorem sgz_facts (s:Bool):nanB (sgz s)=false∧infB (sgz s)=false∧zeroB (sgz s)=true∧fz (sgz s)=0:=by
  cases s
  · exact ⟨by decide,by decide,by decide,(fz_zero _).2 (by decide)⟩
  · exact ⟨by decide,by decide,by decide,(fz_zero _).2 (by decide)⟩
theorem mul_form (a b:Nat) (mode:Int):fmulF a b mode =
    if nanB a||nanB b||(infB a||infB b)&&(zeroB a||zeroB b) then 9221120237041090560
    else if infB a||infB b then sgz (fneg a != fneg b)+9218868437227405312
    else if zeroB a||zeroB b then sgz (fneg a != fneg b)+0
    else rsum (sgi (fneg a != fneg b) (fz a*fz b)) (-2148) mode:=by
  unfold fmulF fmaF
  generalize (fneg a != fneg b)=s
  obtain ⟨h1,h2,h3,h4⟩:=sgz_facts s
  rw [h1,h2,h3,h4,Nat.zero_mul,sgi_zero,Int.add_zero,Nat.add_comm 9218868437227405312]
  simp
theorem fzs_prod (a b:Nat):fzs a*fzs b=sgi (fneg a != fneg b) (fz a*fz b):=by
  unfold fzs sgi
  cases fneg a <;> cases fneg b <;> simp [Int.neg_mul,Int.mul_neg]
theorem fma_num {a b c:Nat} (mode:Int) (ha:finB a=true) (hb:finB b=true) (hc:finB c=true) (hcl:c<18446744073709551616):nanB (fmaF a b c mode)=false∧fmaF a b c mode<18446744073709551616:=by
  obtain ⟨a1,a2⟩:=fin_not ha
  obtain ⟨b1,b2⟩:=fin_not hb
  obtain ⟨c1,c2⟩:=fin_not hc
  unfold fmaF
  rw [a1,a2,b1,b2,c1,c2]
  simp only [Bool.or_false,Bool.false_or,Bool.false_and,Bool.false_eq_true,if_false]
  split
  · exact ⟨(cancel_num mode).1,(cancel_num mode).2.1⟩
  · split
    · exact ⟨c1,hcl⟩
    · exact rsum_num _ _ _
theorem add_num {a b:Nat} (mode:Int) (ha:finB a=true) (hb:finB b=true) (hbl:b<18446744073709551616):nanB (faddF a b mode)=false∧faddF a b mode<18446744073709551616:=fma_num mode ha fin_one hb hbl
theorem mul_num {a b:Nat} (mode:Int) (ha:finB a=true) (hb:finB b=true):nanB (fmulF a b mode)=false∧fmulF a b mode<18446744073709551616 :=
  fma_num mode ha hb (fin_sgz _).1 (fin_sgz _).2.1
theorem mul_zero_left {a b:Nat} (mode:Int) (hz:zeroB a=true) (hfb:finB b=true):fmag (fmulF a b mode)=0:=by
  obtain ⟨b1,b2⟩:=fin_not hfb
  obtain ⟨z1,z2,z3,z4⟩:=zero_not hz
  obtain ⟨s1,s2,s3⟩:=fin_sgz (fneg a != fneg b)
  obtain ⟨s4,s5⟩:=fin_not s1
  unfold fmulF fmaF
  rw [z1,z2,b1,b2,s4,s5,hz]
  simp only [Bool.or_false,Bool.false_and,Bool.false_eq_true,if_false,Bool.true_or,Bool.true_and,Bool.or_true,if_true]
  split
  · exact (cancel_num mode).2.2
  · exact s3
open Go.RowKit
def frdF (d:Dy) (mode:Int):Nat :=
  match d with
  | none=>9221120237041090560
  | some (m,e)=>rz m e mode
theorem Dg.parts {w:World} {v:Value} {d:Dy} (h:Dg w v d):∃ bb nb ao n ca f,v=.agg #[.bool bb,.bool nb,.slice ao n ca,.int .i64 f]:=by
  obtain ⟨bb,nb,ao,n,ca,x,f,h1,h2⟩:=h
  exact ⟨_,_,_,_,_,_,h1⟩
open Go.RowKit
theorem fma_lt {a b c:Nat} (mode:Int) (hc:c<18446744073709551616):fmaF a b c mode<18446744073709551616:=by
  have h1:=sgz_le (fneg a != fneg b)
  have h2:=(cancel_num mode).2.1
  have h3:=fun S m=>(rsum_num S m mode).2
  unfold fmaF
  repeat' split
  all_goals first | omega | exact h3 _ _
theorem fadd_lt {a b:Nat} (mode:Int) (hb:b<18446744073709551616):faddF a b mode<18446744073709551616:=fma_lt mode hb
theorem fdiv_lt {a b:Nat} (mode:Int):fdivF a b mode<18446744073709551616:=by
  have h1:=sgz_le (fneg a != fneg b)
  have h3:=fun N e t=>fla_le (fneg a != fneg b) N e t mode
  unfold fdivF
  repeat' split
  all_goals first | omega | (have:=h3 (quoX (sig a) / quoY (sig b)) (quoE (sig a) (sig b) (-1074+(fsh a:Int)) (-1074+(fsh b:Int))) (decide (quoX (sig a) % quoY (sig b)≠0));omega)
def rk (x:Nat):Int:=frank (nz x)
theorem nz_num {x:Nat} (h:nanB x=false):nz x=x:=by unfold nz;rw [h];rfl
theorem rk_num {x:Nat} (h:nanB x=false):rk x=frank x:=by unfold rk;rw [nz_num h]
theorem nz_not (x:Nat):nanB (nz x)=false:=by
  unfold nz
  cases h:nanB x
  · simp only [Bool.false_eq_true,if_false];exact h
  · simp only [if_true];decide
theorem rk_le (x:Nat) : -9218868437227405312≤rk x∧rk x≤9218868437227405312:=rank_le (nz_not x)
theorem rk_nan {x:Nat} (h:nanB x=true):rk x=0:=by
  unfold rk nz;rw [h];simp [frank_zero (show fmag 0=0 by decide)]
theorem rk_neg {x:Nat} (h:x<18446744073709551616):rk (fnegF x) = -rk x:=by
  cases hn:nanB x with
  | true=>rw [rk_nan hn,neg_nan hn,rk_nan (by decide)];rfl
  | false =>
    obtain ⟨h1,h2,-⟩:=neg_rank h hn
    rw [rk_num hn,rk_num h1,h2]
theorem fla_dirs {N:Nat} (h0:N≠0) (e:Int):fla false N e false 1<9218868437227405312∧fla false N e false 1≤fla false N e false 2∧fla true N e false 2<9218868437227405312∧fla true N e false 2≤fla true N e false 1:=by
  obtain ⟨T,hT⟩:∃ T:Nat,T=max 1074 (-e).toNat:=⟨_,rfl⟩
  rcases fla_spec h0 e (T:=T) (by omega) (by omega) with ⟨lo,h1,h2,_⟩ | ⟨lo,b,h⟩
  · rw [h2,h2,h2,h2];exact ⟨h1,Nat.le_refl _,h1,Nat.le_refl _⟩
  · have hl:=h.lt
    rw [h.val,h.val,h.val,h.val]
    unfold fraise
    simp
    omega
theorem rz_dirs (S e:Int):frank (rz S e 1)<9218868437227405312∧frank (rz S e 1)≤frank (rz S e 2)∧-9218868437227405312<frank (rz S e 2):=by
  obtain ⟨p1,p2,p3⟩:=rank_sign S e 1
  obtain ⟨q1,q2,q3⟩:=rank_sign S e 2
  rcases Int.lt_trichotomy S 0 with h | h | h
  · obtain ⟨a1,a2,a3,a4⟩:=fla_dirs (N:=S.natAbs) (by omega) e
    rw [p1 h,q1 h];omega
  · rw [p3 h,q3 h];omega
  · obtain ⟨a1,a2,a3,a4⟩:=fla_dirs (N:=S.natAbs) (by omega) e
    rw [p2 h,q2 h];omega
theorem mul_fin_rank {a b:Nat} (mode:Int) (fa:finB a=true) (fb:finB b=true):nanB (fmulF a b mode)=false∧frank (fmulF a b mode)=frank (rz (fzs a*fzs b) (-2148) mode):=by
  refine ⟨(mul_num mode fa fb).1,?_⟩
  cases za:zeroB a with
  | true =>
    rw [frank_zero (mul_zero_left mode za fb),zero_fzs za,Int.zero_mul]
    exact (frank_zero (by unfold rz;rw [if_pos rfl];decide)).symm
  | false =>
    cases zb:zeroB b with
    | true =>
      rw [fmulF_comm,frank_zero (mul_zero_left mode zb fa),zero_fzs zb,Int.mul_zero]
      exact (frank_zero (by unfold rz;rw [if_pos rfl];decide)).symm
    | false =>
      have hne:fzs a*fzs b≠0:=Int.mul_ne_zero (nz_fzs za) (nz_fzs zb)
      rw [mul_form,(fin_not fa).1,(fin_not fa).2,(fin_not fb).1,(fin_not fb).2,za,zb,←fzs_prod]
      simp only [Bool.or_false,Bool.false_and,Bool.false_eq_true,if_false]
      unfold rsum rz
      rw [if_neg hne,if_neg hne]
theorem fzs_rank {a b:Nat} (ha:nanB a=false) (hb:nanB b=false):(frank a≤frank b↔fzs a≤fzs b):=by
  obtain ⟨h1,h2⟩:=fs_rank (T:=1074) hb ha
  rw [fs_fzs,fs_fzs] at h1
  omega
theorem fzs_sign {a:Nat} (ha:nanB a=false):(0≤frank a↔0≤fzs a)∧(frank a≤0↔fzs a≤0):=by
  have h1:=fzs_rank (show nanB 0=false by decide) ha
  have h2:=fzs_rank ha (show nanB 0=false by decide)
  rw [frank_zero (show fmag 0=0 by decide),zero_fzs (show zeroB 0=true by decide)] at h1 h2
  exact ⟨h1,h2⟩
theorem vs_le {S S' e:Int} {T:Nat} (h:S≤S'):vs S e T≤vs S' e T:=Int.mul_le_mul_of_nonneg_right h (Int.le_of_lt (Int.pow_pos (by omega)))
theorem rz_le {S S' e:Int} (h:S≤S') (mode:Int):frank (rz S e mode)≤frank (rz S' e mode):=by
  obtain ⟨T,hT⟩:∃ T:Nat,T=max 1074 (-e).toNat:=⟨_,rfl⟩
  exact rz_mono (T:=T) (by omega) (by omega) (by omega) (vs_le h) mode
theorem zero_rank {e:Nat}:frank e=0↔zeroB e=true:=by
  unfold zeroB frank
  rw [decide_eq_true_iff]
  split <;> omega
theorem mul_by_zero {t e:Nat} (mode:Int) (ht:nanB t=false) (hz:zeroB e=true):rk (fmulF t e mode)=0:=by
  rcases fin_or ht with h | h
  · have h2:=(mul_fin_rank mode h (show finB e=true from by
      have:=(zero_not hz).2.2.1
      exact decide_eq_true (by omega)))
    rw [rk_num h2.1,h2.2,zero_fzs hz,Int.mul_zero]
    exact frank_zero (by unfold rz;rw [if_pos rfl];decide)
  · refine rk_nan ?_
    rw [mul_form,h,hz]
    simp
    decide
theorem mul_by_inf {t e:Nat} (mode:Int) (ht:nanB t=false) (zt:zeroB t=false) (ie:infB e=true):rk (fmulF t e mode)=if fneg t != fneg e then -9218868437227405312 else 9218868437227405312:=by
  have hv:fmulF t e mode=sgz (fneg t != fneg e)+9218868437227405312:=by
    obtain ⟨n1,n2⟩:=inf_not ie
    rw [mul_form,ht,n1,zt,n2,ie]
    simp
  have hn:nanB (sgz (fneg t != fneg e)+9218868437227405312)=false:=by cases (fneg t != fneg e) <;> decide
  rw [hv,rk_num hn,rank_sgz _ (Nat.le_refl _)]
  rfl
theorem sign_rank {t:Nat} (zt:zeroB t=false):(fneg t=true→frank t<0)∧(fneg t=false→0<frank t):=by
  have h0:fmag t≠0:=of_decide_eq_false zt
  unfold frank
  constructor
  · intro h;rw [h];simp;omega
  · intro h;rw [h];simp;omega
theorem inf_ends {t:Nat} (h:infB t=true):(fneg t=true∧frank t = -9218868437227405312)∨(fneg t=false∧frank t=9218868437227405312):=by
  have h0:fmag t=9218868437227405312:=of_decide_eq_true h
  unfold frank
  cases fneg t
  · right;simp [h0]
  · left;simp [h0]
theorem mul_mono_pos {t t' e:Nat} (mode:Int) (ht:nanB t=false) (ht':nanB t'=false) (hen:nanB e=false) (he:0≤frank e) (h:frank t≤frank t'):rk (fmulF t e mode)≤rk (fmulF t' e mode):=by
  cases ze:zeroB e with
  | true=>rw [mul_by_zero mode ht ze,mul_by_zero mode ht' ze];exact Int.le_refl _
  | false =>
    have hne:fneg e=false:=by
      cases hh:fneg e with
      | false=>rfl
      | true=>have:=(sign_rank ze).1 hh;omega
    rcases fin_or hen with fe | ie
    · rcases fin_or ht with ft | it
      · rcases fin_or ht' with ft' | it'
        · obtain ⟨a1,a2⟩:=mul_fin_rank mode ft fe
          obtain ⟨b1,b2⟩:=mul_fin_rank mode ft' fe
          rw [rk_num a1,rk_num b1,a2,b2]
          exact rz_le (Int.mul_le_mul_of_nonneg_right ((fzs_rank ht ht').1 h) ((fzs_sign hen).1.1 he)) mode
        · rw [fmulF_comm t' e,mul_by_inf mode hen ze it',hne]
          rcases inf_ends it' with ⟨h1,h2⟩ | ⟨h1,h2⟩
          · have:=(fin_rank_lt ft).1;omega
          · rw [h1];exact (rk_le _).2
      · rw [fmulF_comm t e,mul_by_inf mode hen ze it,hne]
        rcases inf_ends it with ⟨h1,h2⟩ | ⟨h1,h2⟩
        · rw [h1];exact (rk_le _).1
        · have h3:=(rank_le ht').2
          rcases fin_or ht' with ft' | it'
          · have:=(fin_rank_lt ft').2;omega
          · rw [fmulF_comm t' e,mul_by_inf mode hen ze it',hne]
            rcases inf_ends it' with ⟨h4,h5⟩ | ⟨h4,h5⟩
            · omega
            · rw [h1,h4];exact Int.le_refl _
    · cases zt:zeroB t with
      | true =>
        have r0:=zero_rank.2 zt
        rw [fmulF_comm t e,mul_by_zero mode hen zt]
        cases zt':zeroB t' with
        | true=>rw [fmulF_comm t' e,mul_by_zero mode hen zt'];exact Int.le_refl _
        | false =>
          have hn':fneg t'=false:=by
            cases hh:fneg t' with
            | false=>rfl
            | true=>have:=(sign_rank zt').1 hh;omega
          rw [mul_by_inf mode ht' zt' ie,hne,hn']
          simp
      | false =>
        rw [mul_by_inf mode ht zt ie,hne]
        cases hh:fneg t with
        | true=>simp;exact (rk_le _).1
        | false =>
          have hp:=(sign_rank zt).2 hh
          have zt':zeroB t'=false:=by
            cases h2:zeroB t' with
            | false=>rfl
            | true=>have:=zero_rank.2 h2;omega
          have hn':fneg t'=false:=by
            cases h2:fneg t' with
            | false=>rfl
            | true=>have:=(sign_rank zt').1 h2;omega
          rw [mul_by_inf mode ht' zt' ie,hne,hn']
          exact Int.le_refl _
theorem fmul_lt2 (a b:Nat) (mode:Int):fmulF a b mode<18446744073709551616:=by
  unfold fmulF
  exact fma_lt mode (fin_sgz _).2.1
theorem mul_anti {t t' e:Nat} (mode:Int) (le:e<18446744073709551616) (ht:nanB t=false) (ht':nanB t'=false) (hen:nanB e=false) (he:frank e≤0) (h:frank t≤frank t'):rk (fmulF t' e mode)≤rk (fmulF t e mode):=by
  obtain ⟨n1,n2,-⟩:=neg_rank le hen
  have h1:=mul_mono_pos (opp mode) ht ht' n1 (by rw [n2];omega) h
  rw [fmulF_comm t,fmulF_comm t',fmul_mirror le,fmul_mirror le,rk_neg (fmul_lt2 _ _ _),rk_neg (fmul_lt2 _ _ _),fmulF_comm e t,fmulF_comm e t'] at h1
  omega
theorem mul_between {c t d u:Nat} (mode:Int) (lu:u<18446744073709551616) (hc:nanB c=false) (ht:nanB t=false) (hd:nanB d=false) (hu:nanB u=false) (h1:frank c≤frank t) (h2:frank t≤frank d) :
    min (rk (fmulF c u mode)) (rk (fmulF d u mode))≤rk (fmulF t u mode)∧rk (fmulF t u mode)≤max (rk (fmulF c u mode)) (rk (fmulF d u mode)):=by
  rcases Int.le_total 0 (frank u) with h | h
  · have a:=mul_mono_pos mode hc ht hu h h1
    have b:=mul_mono_pos mode ht hd hu h h2
    omega
  · have a:=mul_anti mode lu hc ht hu h h1
    have b:=mul_anti mode lu ht hd hu h h2
    omega
def min4 (a b c d:Int):Int:=min (min a b) (min c d)
def max4 (a b c d:Int):Int:=max (max a b) (max c d)
theorem least4_rank (x1 x2 x3 x4:Nat):nanB (leastF ([x1,x2,x3,x4].map nz))=false∧frank (leastF ([x1,x2,x3,x4].map nz))=min4 (rk x1) (rk x2) (rk x3) (rk x4):=by
  have hi:frank 9218868437227405312=9218868437227405312:=by decide +kernel
  obtain ⟨a1,a2⟩:=less_step (m:=9218868437227405312) (f:=nz x1) (by decide) (nz_not x1)
  obtain ⟨b1,b2⟩:=less_step a1 (nz_not x2)
  obtain ⟨c1,c2⟩:=less_step b1 (nz_not x3)
  obtain ⟨d1,d2⟩:=less_step c1 (nz_not x4)
  refine ⟨d1,?_⟩
  have h:frank (leastF ([x1,x2,x3,x4].map nz))=min (min (min (min 9218868437227405312 (rk x1)) (rk x2)) (rk x3)) (rk x4):=by
    rw [a2,hi] at b2
    rw [b2] at c2
    rw [c2] at d2
    exact d2
  rw [h]
  have:=rk_le x1
  unfold min4
  omega
theorem great4_rank (x1 x2 x3 x4:Nat):nanB (greatF ([x1,x2,x3,x4].map nz))=false∧frank (greatF ([x1,x2,x3,x4].map nz))=max4 (rk x1) (rk x2) (rk x3) (rk x4):=by
  have hi:frank 18442240474082181120 = -9218868437227405312:=by decide +kernel
  obtain ⟨a1,a2⟩:=more_step (m:=18442240474082181120) (f:=nz x1) (by decide) (nz_not x1)
  obtain ⟨b1,b2⟩:=more_step a1 (nz_not x2)
  obtain ⟨c1,c2⟩:=more_step b1 (nz_not x3)
  obtain ⟨d1,d2⟩:=more_step c1 (nz_not x4)
  refine ⟨d1,?_⟩
  have h:frank (greatF ([x1,x2,x3,x4].map nz))=max (max (max (max (-9218868437227405312) (rk x1)) (rk x2)) (rk x3)) (rk x4):=by
    rw [a2,hi] at b2
    rw [b2] at c2
    rw [c2] at d2
    exact d2
  rw [h]
  have:=rk_le x1
  unfold max4
  omega
structure Mono (f:Nat→Nat→Int→Nat) (L R:Nat→Prop):Prop where
  left:∀ c t d u mode,L c→L t→L d→R u→frank c≤frank t→frank t≤frank d→min (rk (f c u mode)) (rk (f d u mode))≤rk (f t u mode)∧rk (f t u mode)≤max (rk (f c u mode)) (rk (f d u mode))
  right:∀ u c t d mode,L u→R c→R t→R d→frank c≤frank t→frank t≤frank d→min (rk (f u c mode)) (rk (f u d mode))≤rk (f u t mode)∧rk (f u t mode)≤max (rk (f u c mode)) (rk (f u d mode))
  dirs:∀ t u,L t→R u→finB t=true→finB u=true→rk (f t u 1)<9218868437227405312∧rk (f t u 1)≤rk (f t u 2)∧-9218868437227405312<rk (f t u 2)
def lo4 (f:Nat→Nat→Int→Nat) (a b c d:Nat):Int:=min4 (rk (f a c 1)) (rk (f a d 1)) (rk (f b c 1)) (rk (f b d 1))
def hi4 (f:Nat→Nat→Int→Nat) (a b c d:Nat):Int:=max4 (rk (f a c 2)) (rk (f a d 2)) (rk (f b c 2)) (rk (f b d 2))
section
variable {f:Nat→Nat→Int→Nat} {L R:Nat→Prop}
theorem Mono.good (h:Mono f L R) {a b c d t u:Nat} (ha:L a) (hb:L b) (hc:R c) (hd:R d) (ht:L t) (hu:R u) (ft:finB t=true) (fu:finB u=true) (h1:frank a≤frank t) (h2:frank t≤frank b) (h3:frank c≤frank u) (h4:frank u≤frank d) :
    lo4 f a b c d<9218868437227405312∧lo4 f a b c d≤hi4 f a b c d∧-9218868437227405312<hi4 f a b c d:=by
  obtain ⟨p1,p2⟩:=h.left a t b u 1 ha ht hb hu h1 h2
  obtain ⟨q1,q2⟩:=h.left a t b u 2 ha ht hb hu h1 h2
  obtain ⟨r1,r2⟩:=h.right a c u d 1 ha hc hu hd h3 h4
  obtain ⟨s1,s2⟩:=h.right b c u d 1 hb hc hu hd h3 h4
  obtain ⟨R1,R2⟩:=h.right a c u d 2 ha hc hu hd h3 h4
  obtain ⟨S1,S2⟩:=h.right b c u d 2 hb hc hu hd h3 h4
  obtain ⟨d1,d2,d3⟩:=h.dirs t u ht hu ft fu
  unfold lo4 hi4 min4 max4
  omega
end
def Nm (x:Nat):Prop:=x<18446744073709551616∧nanB x=false
theorem mul_monoF:Mono fmulF Nm Nm where
  left:=fun c t d u mode hc ht hd hu h1 h2=>mul_between mode hu.1 hc.2 ht.2 hd.2 hu.2 h1 h2
  right:=fun u c t d mode hu hc ht hd h1 h2=>by
    rw [fmulF_comm u c,fmulF_comm u d,fmulF_comm u t]
    exact mul_between mode hu.1 hc.2 ht.2 hd.2 hu.2 h1 h2
  dirs:=fun t u ht hu ft fu=>by
    obtain ⟨a1,a2⟩:=mul_fin_rank 1 ft fu
    obtain ⟨b1,b2⟩:=mul_fin_rank 2 ft fu
    rw [rk_num a1,rk_num b1,a2,b2]
    exact rz_dirs _ _
theorem valid_point2 {a b:Nat} (ha:a<18446744073709551616) (hb:b<18446744073709551616) (h:validF a b=true):∃ t,Nm t∧finB t=true∧frank a≤frank t∧frank t≤frank b:=by
  obtain ⟨n1,n2,h1,h2,h3⟩:=(valid_iff ha hb).1 h
  rcases fin_or n1 with f1 | i1
  · exact ⟨a,⟨ha,n1⟩,f1,Int.le_refl _,h1⟩
  · rcases fin_or n2 with f2 | i2
    · exact ⟨b,⟨hb,n2⟩,f2,h1,Int.le_refl _⟩
    · have hz:frank 0=0:=frank_zero (by decide)
      refine ⟨0,⟨by omega,by decide⟩,by decide,?_,?_⟩
      · rw [hz]
        rcases inf_ends i1 with ⟨_,h⟩ | ⟨_,h⟩ <;> omega
      · rw [hz]
        rcases inf_ends i2 with ⟨_,h⟩ | ⟨_,h⟩ <;> omega
theorem fla_sticky (neg:Bool) {Q:Nat} (e:Int) (mode:Int) (hQ:2^53≤Q):fla neg Q e true mode=fla neg (2*Q+1) (e - 1) false mode:=by
  have h:=fla_tail neg (N:=2*Q+1) (e - 1) false mode 1 (by rw [Nat.pow_one];omega)
  rw [Nat.pow_one,show (2*Q+1) / 2=Q by omega,show (2*Q+1) % 2=1 by omega,show e - 1+((1:Nat):Int)=e by omega] at h
  exact h
theorem fu_even (m:Nat) (e:Int) (T:Nat):(∃ k,fu m T=2*k*2^(e - 1+T).toNat)∨fu m T<2^53*2^(e - 1+T).toNat:=by
  unfold fu
  rw [fz_parts,Nat.mul_assoc,←Nat.pow_add]
  obtain ⟨c,hc⟩:∃ c:Nat,(e - 1+T).toNat=c:=⟨_,rfl⟩
  rw [hc]
  by_cases h:c<fsh m+(T - 1074)
  · left
    obtain ⟨d,hd⟩:∃ d,fsh m+(T - 1074)=d+1+c:=⟨fsh m+(T - 1074) - c - 1,by omega⟩
    refine ⟨sig m*2^d,?_⟩
    rw [hd,Nat.pow_add,Nat.pow_succ',←Nat.mul_assoc,←Nat.mul_assoc,Nat.mul_comm (sig m) 2,Nat.mul_assoc 2 (sig m)]
  · right
    have h1:sig m*2^(fsh m+(T - 1074))<2^53*2^(fsh m+(T - 1074)):=Nat.mul_lt_mul_of_pos_right (sig_lt m) (Nat.pow_pos (by omega))
    exact Nat.lt_of_lt_of_le h1 (Nat.mul_le_mul_left _ (Nat.pow_le_pow_right (by omega) (by omega)))
theorem fla_trunc {Q:Nat} {e:Int} (t:Bool) {T:Nat} (hQ:2^53≤Q) (hT:1074≤T) (he : -(T:Int)≤e - 1) :
    fla false Q e t 1<9218868437227405312∧fu (fla false Q e t 1) T≤vu Q e T ∧
    (fla false Q e t 2=9218868437227405312∨fla false Q e t 2<9218868437227405312∧vu (if t then Q+1 else Q) e T≤fu (fla false Q e t 2) T):=by
  have hQ0:Q≠0:=by omega
  cases t with
  | false =>
    simp only [Bool.false_eq_true,if_false]
    rcases fla_spec hQ0 e hT (by omega) with ⟨l,h1,h2,h3⟩ | ⟨l,b,h⟩
    · rw [h2,h2]
      exact ⟨h1,by omega,Or.inr ⟨h1,by omega⟩⟩
    · rw [h.val,h.val]
      have r1:fraise false 1 b=false:=rfl
      have r2:fraise false 2 b=true:=rfl
      rw [r1,r2]
      simp only [Bool.false_eq_true,if_false,if_true,Nat.add_zero]
      have:=h.lt
      refine ⟨h.lt,Nat.le_of_lt h.above,?_⟩
      rcases h.below with ⟨g,_⟩ | g
      · left;exact g
      · by_cases hi:l+1=9218868437227405312
        · left;exact hi
        · right;exact ⟨by omega,Nat.le_of_lt g⟩
  | true =>
    simp only [if_true]
    rw [fla_sticky false e 1 hQ,fla_sticky false e 2 hQ]
    have hv:vu (2*Q+1) (e - 1) T=(2*Q+1)*2^(e - 1+T).toNat:=rfl
    have hq:∀ q,vu q e T=2*q*2^(e - 1+T).toNat:=by
      intro q
      unfold vu
      rw [show (e+T).toNat=(e - 1+T).toNat+1 by omega,Nat.pow_succ',←Nat.mul_assoc,Nat.mul_comm q 2]
    have hpos:0<2^(e - 1+T).toNat:=Nat.pow_pos (by omega)
    have hbig:2^53*2^(e - 1+T).toNat≤2*Q*2^(e - 1+T).toNat:=Nat.mul_le_mul_right _ (by omega)
    have hlt:2*Q*2^(e - 1+T).toNat<(2*Q+1)*2^(e - 1+T).toNat:=Nat.mul_lt_mul_of_pos_right (by omega) hpos
    -- below the odd number: at most the even one before; above: at least the one behind
    have lo:∀ m,fu m T<vu (2*Q+1) (e - 1) T→fu m T≤vu Q e T:=by
      intro m h
      rw [hv] at h
      rw [hq]
      rcases fu_even m e T with ⟨k,hk⟩ | h1
      · rw [hk] at h ⊢
        have:=Nat.lt_of_mul_lt_mul_right h
        exact Nat.mul_le_mul_right _ (by omega)
      · omega
    have up:∀ m,vu (2*Q+1) (e - 1) T<fu m T→vu (Q+1) e T≤fu m T:=by
      intro m h
      rw [hv] at h
      rw [hq]
      rcases fu_even m e T with ⟨k,hk⟩ | h1
      · rw [hk] at h ⊢
        have:=Nat.lt_of_mul_lt_mul_right h
        exact Nat.mul_le_mul_right _ (by omega)
      · omega
    rcases fla_spec (N:=2*Q+1) (by omega) (e - 1) hT he with ⟨l,h1,h2,h3⟩ | ⟨l,b,h⟩
    · exfalso
      rw [hv] at h3
      rcases fu_even l e T with ⟨k,hk⟩ | h4
      · rw [hk] at h3
        have:=Nat.eq_of_mul_eq_mul_right hpos h3
        omega
      · omega
    · rw [h.val,h.val]
      have r1:fraise false 1 b=false:=rfl
      have r2:fraise false 2 b=true:=rfl
      rw [r1,r2]
      simp only [Bool.false_eq_true,if_false,if_true,Nat.add_zero]
      have:=h.lt
      refine ⟨h.lt,lo l h.above,?_⟩
      rcases h.below with ⟨g,_⟩ | g
      · left;exact g
      · by_cases hi:l+1=9218868437227405312
        · left;exact hi
        · right;exact ⟨by omega,up (l+1) g⟩
theorem newton_end {N r s:Nat} (h2:N<(s+1)*(s+1)) (hs:s≤r) (hr:0<r) (hq:r≤N / r):r=s:=by
  have h1:=(Nat.le_div_iff_mul_le hr).1 hq
  rcases Nat.lt_or_ge s r with h | h
  · have:=Nat.mul_le_mul (show s+1≤r from h) (show s+1≤r from h)
    omega
  · omega
theorem newton_down {N r s:Nat} (h1:s*s≤N) (hs:s≤r) (hr:0<r) (hq:N / r<r):s≤(r+N / r) / 2∧(r+N / r) / 2<r:=by
  refine ⟨?_,by omega⟩
  have h:2*s≤r+N / r:=by
    obtain ⟨d,hd⟩:∃ d,r=s+d:=⟨r - s,by omega⟩
    by_cases hds:d≤s
    · have h3:(s - d)≤N / r:=by
        rw [Nat.le_div_iff_mul_le hr,hd]
        obtain ⟨f,hf⟩:∃ f,s=f+d:=⟨s - d,by omega⟩
        have e1:(s - d)*(s+d)+d*d=s*s:=by
          rw [hf,Nat.add_sub_cancel]
          simp only [Nat.mul_add,Nat.mul_comm]
          omega
        omega
      omega
    · generalize N / r=z at *
      omega
  omega
theorem exact_word {hi lo r:Nat} (h1:r*r≤hi*18446744073709551616+lo) (h2:hi*18446744073709551616+lo<(r+1)*(r+1)) (hr:r<9223372036854775808) (hl:lo<18446744073709551616):r*r % 18446744073709551616=lo↔r*r=hi*18446744073709551616+lo:=by
  have e:(r+1)*(r+1)=r*r+2*r+1:=by rw [Nat.add_mul,Nat.mul_add];omega
  rw [e] at h2
  generalize r*r=q at *
  constructor <;> intro h <;> omega
theorem abs_mul_lt {x y:Int} {B C:Nat} (hx:x.natAbs<2^B) (hy:y.natAbs<2^C):(x*y).natAbs<2^(B+C):=by
  rw [Int.natAbs_mul,Nat.pow_add]
  by_cases h0:y.natAbs=0
  · rw [h0,Nat.mul_zero];exact Nat.mul_pos (Nat.pow_pos (by omega)) (Nat.pow_pos (by omega))
  · exact Nat.mul_lt_mul_of_lt_of_le hx (Nat.le_of_lt hy) (Nat.pow_pos (by omega))
def SB:Nat:=640+4000
section
variable {a b c:Dy}
end
structure NearBig (d lo hi near inn:Dy) (c:Int):Prop where
  lo_ne:lo≠none
  hi_ne:hi≠none
  near_ne:near≠none
  lohi:lo≠hi
  a:sgn3 (sc lo) (sc d) = -1
  b:sgn3 (sc d) (sc hi) = -1
  below:dsub d lo≠none
  above:dsub hi d≠none
  cmp:sgn3 (sc (dsub d lo)) (sc (dsub hi d))=c
  choice:c = -1∧near=lo∨c=1∧near=hi∨c=0∧(near=lo∨near=hi)
  inward:dm d<0∧inn=hi∨0≤dm d∧inn=lo
structure QuoIs (a b lo hi:Dy) (p x y:Int):Prop where
  lon:lo≠none
  hin:hi≠none
  lob:(blen (dm lo).natAbs:Int)≤p
  hib:(blen (dm hi).natAbs:Int)≤p
  lom:dmul lo b≠none
  him:dmul hi b≠none
  cx:sgn3 (sc (dmul lo b)) (sc a)=x
  cy:sgn3 (sc a) (sc (dmul hi b))=y
  xle:¬ 0<x
  yle:¬ 0<y
  same:lo=hi↔x=0
  both:x=0↔y=0
theorem isq_ex (N:Nat):∃ s,s*s≤N∧N<(s+1)*(s+1):=by
  induction N with
  | zero=>exact ⟨0,by omega,by omega⟩
  | succ n ih =>
    obtain ⟨s,h1,h2⟩:=ih
    by_cases h:n+1<(s+1)*(s+1)
    · exact ⟨s,by omega,h⟩
    · refine ⟨s+1,by omega,?_⟩
      have e:(s+1+1)*(s+1+1)=(s+1)*(s+1)+2*(s+1)+1:=by rw [Nat.add_mul (s+1) 1,Nat.mul_add (s+1) (s+1) 1];omega
      omega
noncomputable def isq (N:Nat):Nat:=(isq_ex N).choose
theorem isq_spec (N:Nat):isq N*isq N≤N∧N<(isq N+1)*(isq N+1):=(isq_ex N).choose_spec
theorem isq_le {N a:Nat}:a≤isq N↔a*a≤N:=by
  obtain ⟨h1,h2⟩:=isq_spec N
  constructor
  · intro h;exact Nat.le_trans (Nat.mul_le_mul h h) h1
  · intro h
    rcases Nat.lt_or_ge (isq N) a with h3 | h3
    · have:=Nat.mul_le_mul (show isq N+1≤a from h3) (show isq N+1≤a from h3)
      omega
    · exact h3
theorem isq_of {N s:Nat} (h1:s*s≤N) (h2:N<(s+1)*(s+1)):s=isq N:=by
  have a:=isq_le.2 h1
  rcases Nat.lt_or_ge s (isq N) with h | h
  · have:=isq_le.1 (show s+1≤isq N from h)
    omega
  · omega
theorem isq_sq (a:Nat):isq (a*a)=a:=by
  refine (isq_of (Nat.le_refl _) ?_).symm
  have e:(a+1)*(a+1)=a*a+2*a+1:=by rw [Nat.add_mul a 1,Nat.mul_add a a 1];omega
  omega
structure RootIs (a lo hi:Dy) (x y:Int):Prop where
  lon:lo≠none
  hin:hi≠none
  lob:blen (dm lo).natAbs≤80
  hib:blen (dm hi).natAbs≤80
  lom:dmul lo lo≠none
  him:dmul hi hi≠none
  cx:sgn3 (sc (dmul lo lo)) (sc a)=x
  cy:sgn3 (sc a) (sc (dmul hi hi))=y
  xle:¬ 0<x
  yle:¬ 0<y
  same:lo=hi↔x=0
theorem quo_more {A C k j:Nat} (hC:C≠0) :
    A*2^(k+j) / C / 2^j=A*2^k / C∧(decide (A*2^(k+j) % C≠0)||decide (A*2^(k+j) / C % 2^j≠0))=decide (A*2^k % C≠0):=by
  have hJ:0<2^j:=Nat.pow_pos (by omega)
  rw [Nat.pow_add,←Nat.mul_assoc]
  generalize A*2^k=X
  generalize 2^j=J at *
  have h1:X*J / C / J=X / C:=by rw [Nat.div_div_eq_div_mul,Nat.mul_div_mul_right _ _ hJ]
  refine ⟨h1,?_⟩
  have d1:=Nat.div_add_mod (X*J) C
  have d2:=Nat.div_add_mod (X*J / C) J
  have d3:=Nat.div_add_mod X C
  rw [h1] at d2
  generalize X*J / C % J=s at *
  generalize X*J % C=r' at *
  generalize X % C=r at *
  generalize X / C=Q at *
  rw [←d2,←d3] at d1
  have e:C*s+r'=r*J:=by
    have e1:C*(J*Q+s)+r'=C*(J*Q)+(C*s+r'):=by rw [Nat.mul_add];omega
    have e2:(C*Q+r)*J=C*(J*Q)+r*J:=by rw [Nat.add_mul,Nat.mul_assoc,Nat.mul_comm Q J]
    omega
  rw [←Bool.decide_or]
  apply decide_eq_decide.2
  constructor
  · intro h h2
    subst h2
    rw [Nat.zero_mul] at e
    rcases h with h | h
    · omega
    · have:=Nat.mul_pos (Nat.pos_of_ne_zero hC) (Nat.pos_of_ne_zero h);omega
  · intro h
    by_cases h2:r'=0
    · right
      intro h3
      rw [h2,h3,Nat.mul_zero] at e
      have:=Nat.mul_pos (Nat.pos_of_ne_zero h) hJ
      omega
    · exact Or.inl h2
theorem fla_quo {neg:Bool} {A C k j:Nat} {E mode:Int} (hC:C≠0) (h:2^53≤A*2^k / C) :
    fla neg (A*2^(k+j) / C) E (decide (A*2^(k+j) % C≠0)) mode=fla neg (A*2^k / C) (E+j) (decide (A*2^k % C≠0)) mode:=by
  obtain ⟨h1,h2⟩:=quo_more (A:=A) (k:=k) (j:=j) hC
  have h3:=fla_tail neg (N:=A*2^(k+j) / C) E (decide (A*2^(k+j) % C≠0)) mode j (by rw [h1];exact h)
  rw [h1,h2] at h3
  exact h3.symm
theorem fla_quo_any {neg:Bool} {A C k k':Nat} {E mode:Int} (hC:C≠0) (h:2^53≤A*2^k / C) (h':2^53≤A*2^k' / C) :
    fla neg (A*2^k / C) (E - k) (decide (A*2^k % C≠0)) mode=fla neg (A*2^k' / C) (E - k') (decide (A*2^k' % C≠0)) mode:=by
  rcases Nat.le_total k k' with h1 | h1
  · obtain ⟨j,rfl⟩:∃ j,k'=k+j:=⟨k' - k,by omega⟩
    rw [fla_quo (j:=j) hC h]
    congr 1
    omega
  · obtain ⟨j,rfl⟩:∃ j,k=k'+j:=⟨k - k',by omega⟩
    rw [fla_quo (j:=j) hC h']
    congr 1
    omega
theorem quo_twos {A C i l k:Nat} (h:l≤k+i):A*2^i*2^k / (C*2^l)=A*2^(k+i - l) / C∧(decide (A*2^i*2^k % (C*2^l)≠0))=decide (A*2^(k+i - l) % C≠0):=by
  have hL:0<2^l:=Nat.pow_pos (by omega)
  have e:A*2^i*2^k=A*2^(k+i - l)*2^l:=by rw [Nat.mul_assoc,Nat.mul_assoc,←Nat.pow_add,←Nat.pow_add];congr 2;omega
  rw [e,Nat.mul_div_mul_right _ _ hL,Nat.mul_mod_mul_right]
  refine ⟨rfl,?_⟩
  apply decide_eq_decide.2
  constructor
  · intro h1 h2;exact h1 (by rw [h2,Nat.zero_mul])
  · intro h1 h2
    rcases Nat.mul_eq_zero.1 h2 with h3 | h3
    · exact h1 h3
    · omega
theorem root_more {M j:Nat}:isq (M*(2^j*2^j)) / 2^j=isq M∧(decide (isq (M*(2^j*2^j))*isq (M*(2^j*2^j))≠M*(2^j*2^j))||decide (isq (M*(2^j*2^j)) % 2^j≠0))=decide (isq M*isq M≠M):=by
  have hJ:0<2^j:=Nat.pow_pos (by omega)
  generalize 2^j=J at *
  have hsq:∀ c:Nat,c*c*(J*J)=(c*J)*(c*J):=fun c=>by rw [Nat.mul_mul_mul_comm]
  have hJJ:0<J*J:=Nat.mul_pos hJ hJ
  have hL:∀ c:Nat,c≤isq (M*(J*J)) / J↔c≤isq M:=by
    intro c
    rw [Nat.le_div_iff_mul_le hJ,isq_le,isq_le,←hsq]
    exact ⟨fun h=>Nat.le_of_mul_le_mul_right h hJJ,fun h=>Nat.mul_le_mul_right _ h⟩
  have hR:isq (M*(J*J)) / J=isq M:=Nat.le_antisymm ((hL _).1 (Nat.le_refl _)) ((hL _).2 (Nat.le_refl _))
  refine ⟨hR,?_⟩
  rw [←Bool.decide_or]
  apply decide_eq_decide.2
  constructor
  · intro h h2
    have h3:M*(J*J)=(isq M*J)*(isq M*J):=by rw [←hsq,h2]
    have h4:isq (M*(J*J))=isq M*J:=by rw [h3,isq_sq]
    rcases h with h | h
    · apply h;rw [h4,h3]
    · apply h;rw [h4];exact Nat.mul_mod_left _ _
  · intro h
    by_cases h2:isq (M*(J*J)) % J=0
    · left
      intro h3
      have hd:=Nat.div_add_mod (isq (M*(J*J))) J
      rw [h2,hR,Nat.add_zero,Nat.mul_comm] at hd
      rw [←hd,←hsq] at h3
      exact h (Nat.eq_of_mul_eq_mul_right hJJ h3)
    · exact Or.inr h2
theorem fla_root {neg:Bool} {M j:Nat} {E mode:Int} (h:2^53≤isq M) :
    fla neg (isq (M*(2^j*2^j))) E (decide (isq (M*(2^j*2^j))*isq (M*(2^j*2^j))≠M*(2^j*2^j))) mode=fla neg (isq M) (E+j) (decide (isq M*isq M≠M)) mode:=by
  obtain ⟨h1,h2⟩:=root_more (M:=M) (j:=j)
  have h3:=fla_tail neg (N:=isq (M*(2^j*2^j))) E (decide (isq (M*(2^j*2^j))*isq (M*(2^j*2^j))≠M*(2^j*2^j))) mode j (by rw [h1];exact h)
  rw [h1,h2] at h3
  exact h3.symm
theorem quoX_ge {N:Nat} (h:N≠0) (hN:N<2^127):2^127≤quoX N:=by
  have l0:=Nat.log2_self_le h
  have l1:Nat.log2 N<127:=(Nat.log2_lt h).2 hN
  unfold quoX
  have e:(2:Nat)^127=2^Nat.log2 N*2^(127 - Nat.log2 N):=by rw [←Nat.pow_add];congr 1;omega
  rw [e]
  exact Nat.mul_le_mul_right _ l0
theorem quoY_lt {D:Nat} (h:D≠0) (hD:D<2^63):quoY D<2^64:=by
  have l1:=@Nat.lt_log2_self D
  have l2:Nat.log2 D<63:=(Nat.log2_lt h).2 hD
  unfold quoY
  have e:(2:Nat)^64=2^(Nat.log2 D+1)*2^(63 - Nat.log2 D):=by rw [←Nat.pow_add];congr 1;omega
  rw [e]
  exact Nat.mul_lt_mul_of_pos_right l1 (Nat.pow_pos (by omega))
theorem div_long {neg:Bool} {mode:Int} {N D A C i l k:Nat} {ex ey:Int} (hN:N=A*2^i) (hD:D=C*2^l) (hA:A≠0) (hC:C≠0) (hN1:N<2^53) (hD1:D<2^53) (hk:2^53≤A*2^k / C) :
    fla neg (quoX N / quoY D) (quoE N D ex ey) (decide (quoX N % quoY D≠0)) mode=fla neg (A*2^k / C) (ex+i - (ey+l) - k) (decide (A*2^k % C≠0)) mode:=by
  have hp:∀ n:Nat,0<2^n:=fun n=>Nat.pow_pos (by omega)
  have hN0:N≠0:=by rw [hN];have:=Nat.mul_pos (Nat.pos_of_ne_zero hA) (hp i);omega
  have hD0:D≠0:=by rw [hD];have:=Nat.mul_pos (Nat.pos_of_ne_zero hC) (hp l);omega
  have p53:(2:Nat)^53<2^63:=Nat.pow_lt_pow_right (by omega) (by omega)
  have p127:(2:Nat)^53<2^127:=Nat.pow_lt_pow_right (by omega) (by omega)
  have hx:=quoX_ge hN0 (Nat.lt_trans hN1 p127)
  have hy:=quoY_lt hD0 (Nat.lt_trans hD1 p53)
  have hy0:0<quoY D:=by unfold quoY;exact Nat.mul_pos (Nat.pos_of_ne_zero hD0) (hp _)
  have lN:Nat.log2 N<53:=(Nat.log2_lt hN0).2 hN1
  have lD:Nat.log2 D<53:=(Nat.log2_lt hD0).2 hD1
  have hl:l≤53:=by
    rcases Nat.lt_or_ge 53 l with h | h
    · have h1:2^53≤2^l:=Nat.pow_le_pow_right (by omega) (by omega)
      have h2:2^l≤C*2^l:=Nat.le_mul_of_pos_left _ (Nat.pos_of_ne_zero hC)
      omega
    · exact h
  have hge:2^53≤quoX N / quoY D:=by
    rw [Nat.le_div_iff_mul_le hy0]
    have h1:2^53*quoY D≤2^53*2^64:=Nat.mul_le_mul_left _ (Nat.le_of_lt hy)
    have h2:(2:Nat)^53*2^64≤2^127:=by rw [←Nat.pow_add];exact Nat.pow_le_pow_right (by omega) (by omega)
    omega
  have hly:l+(63 - Nat.log2 D)≤64:=by
    have h1:2^l≤D:=by rw [hD];exact Nat.le_mul_of_pos_left _ (Nat.pos_of_ne_zero hC)
    have h2:l≤Nat.log2 D:=(Nat.le_log2 hD0).2 h1
    omega
  have hE:quoE N D ex ey=ex+i - (ey+l) - ((127 - Nat.log2 N+i - (l+(63 - Nat.log2 D)):Nat):Int):=by
    unfold quoE;omega
  have hq:quoX N=A*2^i*2^(127 - Nat.log2 N):=by unfold quoX;rw [hN]
  have hd:quoY D=C*2^(l+(63 - Nat.log2 D)):=by unfold quoY;rw [Nat.pow_add,←Nat.mul_assoc,←hD]
  obtain ⟨q1,q2⟩:=quo_twos (A:=A) (C:=C) (i:=i) (l:=l+(63 - Nat.log2 D)) (k:=127 - Nat.log2 N) (by omega)
  rw [←hq,←hd] at q1 q2
  rw [hE,q2,q1]
  rw [q1] at hge
  exact fla_quo_any hC hge hk
theorem root_long {neg:Bool} {mode:Int} {N A i s k:Nat} {E e:Int} (hN:N=A*2^i) (hexp:2*E+s=e) (hev:(e+i - (k:Int)) % 2=0) (h1:2^53≤isq (N*2^s)) (h2:2^53≤isq (A*2^k)) :
    fla neg (isq (N*2^s)) E (decide (isq (N*2^s)*isq (N*2^s)≠N*2^s)) mode=fla neg (isq (A*2^k)) ((e+i - (k:Int)) / 2) (decide (isq (A*2^k)*isq (A*2^k)≠A*2^k)) mode:=by
  have e1:N*2^s=A*2^(i+s):=by rw [hN,Nat.mul_assoc,←Nat.pow_add]
  rw [e1] at h1 ⊢
  rcases Nat.le_total k (i+s) with h | h
  · obtain ⟨j,hj⟩:∃ j,i+s=k+(j+j):=⟨(i+s - k) / 2,by omega⟩
    have e2:A*2^(i+s)=A*2^k*(2^j*2^j):=by rw [hj,Nat.pow_add,←Nat.mul_assoc,Nat.pow_add 2 j j]
    rw [e2,fla_root h2]
    congr 1
    omega
  · obtain ⟨j,hj⟩:∃ j,k=i+s+(j+j):=⟨(k - (i+s)) / 2,by omega⟩
    have e2:A*2^k=A*2^(i+s)*(2^j*2^j):=by rw [hj,Nat.pow_add,←Nat.mul_assoc,Nat.pow_add 2 j j]
    rw [e2,fla_root h1]
    congr 1
    omega
end Go.Proofs.YtkomhemjodbkpaaGreatDoor
