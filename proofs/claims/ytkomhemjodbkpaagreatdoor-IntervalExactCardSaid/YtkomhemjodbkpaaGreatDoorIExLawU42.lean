import Derived.Test.YtkomhemjodbkpaaGreatDoorIExLawU28
import Derived.Test.YtkomhemjodbkpaaGreatDoorIExLawU22
import Derived.Test.YtkomhemjodbkpaaGreatDoorIExLawU24
import Derived.Test.YtkomhemjodbkpaaGreatDoorIExLawU34
import Derived.Test.YtkomhemjodbkpaaGreatDoorIExLawU35
import Derived.Test.YtkomhemjodbkpaaGreatDoorIExLawU37
import Derived.Test.YtkomhemjodbkpaaGreatDoorIExLawU41
import Derived.Test.YtkomhemjodbkpaaGreatDoorIExLawU25
import Derived.Test.YtkomhemjodbkpaaGreatDoorIExLawU40
namespace Go.Proofs.YtkomhemjodbkpaaGreatDoor
def WfN (T:Nat) (p:Int × Dy):Prop:=p.1=1∨p.1 = -1∨(p.1=0∧∃ N,Is p.2 T N)
def rkN (p:Int × Dy) (mode:Int):Int:=frank (rnN p.1 p.2 mode)
theorem rkN_top {p:Int × Dy} (h:p.1=1) (mode:Int):rkN p mode=9218868437227405312:=by
  unfold rkN rnN;rw [if_pos h];decide
theorem rkN_low {p:Int × Dy} (h:p.1 = -1) (mode:Int):rkN p mode = -9218868437227405312:=by
  unfold rkN rnN;rw [if_neg (by omega),if_pos h];decide
theorem rkN_fin {p:Int × Dy} {T:Nat} {N:Int} (h:p.1=0) (hi:Is p.2 T N) (mode:Int):rkN p mode=frank (rz N (-(T:Int)) mode):=by
  unfold rkN rnN;rw [if_neg (by omega),if_neg (by omega),frd_is hi,(plain_facts _).2]
theorem rkN_le {p:Int × Dy} {T:Nat} (h:WfN T p) (mode:Int) : -9218868437227405312≤rkN p mode∧rkN p mode≤9218868437227405312:=by
  rcases h with h | h | ⟨h,N,hi⟩
  · rw [rkN_top h];omega
  · rw [rkN_low h];omega
  · rw [rkN_fin h hi];exact rank_le (rz_facts _ _ _).1
theorem less_mono {T:Nat} (hT:T≤65536) {p q:Int × Dy} (hp:WfN T p) (hq:WfN T q) (mode:Int) :
    (lessN q.1 q.2 p.1 p.2=false→rkN p mode≤rkN q mode)∧(lessN q.1 q.2 p.1 p.2=true→rkN q mode≤rkN p mode):=by
  have bp:=rkN_le hp mode
  have bq:=rkN_le hq mode
  rcases hp with h | h | ⟨h,N,hi⟩
  · refine ⟨fun l=>?_,fun _=>by rw [rkN_top h];omega⟩
    rcases hq with k | k | ⟨k,M,hj⟩
    · rw [rkN_top h,rkN_top k];omega
    · unfold lessN at l;rw [h,k] at l;simp at l
    · unfold lessN at l;rw [h,k] at l;simp at l
  · refine ⟨fun _=>by rw [rkN_low h];omega,fun l=>?_⟩
    rcases hq with k | k | ⟨k,M,hj⟩
    · unfold lessN at l;rw [h,k] at l;simp at l
    · rw [rkN_low h,rkN_low k];omega
    · unfold lessN at l;rw [h,k] at l;simp at l
  · rcases hq with k | k | ⟨k,M,hj⟩
    · refine ⟨fun _=>by rw [rkN_top k];omega,fun l=>?_⟩
      unfold lessN at l;rw [h,k] at l;simp at l
    · refine ⟨fun l=>?_,fun _=>by rw [rkN_low k];omega⟩
      unfold lessN at l;rw [h,k] at l;simp at l
    · obtain ⟨m,e,hd,_⟩:=id hi
      obtain ⟨m',e',hd',_⟩:=id hj
      have s1:=sc_is hi hT
      have s2:=sc_is hj hT
      have hpos:(0:Int)<2^(65536 - T):=Int.pow_pos (by omega)
      have hl:lessN q.1 q.2 p.1 p.2=decide (M<N):=by
        unfold lessN
        rw [if_neg (by omega),s1,s2,hd,hd']
        have:(M*2^(65536 - T)<N*2^(65536 - T))=(M<N):=propext ⟨fun a=>Int.lt_of_mul_lt_mul_right a (Int.le_of_lt hpos),fun a=>Int.mul_lt_mul_of_pos_right a hpos⟩
        simp only [Option.isSome_some,Bool.true_and,this]
      rw [hl,rkN_fin h hi,rkN_fin k hj]
      exact ⟨fun l=>rz_le (by have:=of_decide_eq_false l;omega) mode,fun l=>rz_le (by have:=of_decide_eq_true l;omega) mode⟩
theorem low_rk {T:Nat} (hT:T≤65536) {p q:Int × Dy} (hp:WfN T p) (hq:WfN T q) (mode:Int):WfN T (lowN p q)∧rkN (lowN p q) mode=min (rkN p mode) (rkN q mode):=by
  obtain ⟨h1,h2⟩:=less_mono hT hp hq mode
  unfold lowN
  cases hl:lessN q.1 q.2 p.1 p.2 with
  | true=>rw [if_pos rfl];have:=h2 hl;exact ⟨hq,by omega⟩
  | false=>rw [if_neg (by decide)];have:=h1 hl;exact ⟨hp,by omega⟩
theorem high_rk {T:Nat} (hT:T≤65536) {p q:Int × Dy} (hp:WfN T p) (hq:WfN T q) (mode:Int):WfN T (highN p q)∧rkN (highN p q) mode=max (rkN p mode) (rkN q mode):=by
  obtain ⟨h1,h2⟩:=less_mono hT hq hp mode
  unfold highN
  cases hl:lessN p.1 p.2 q.1 q.2 with
  | true=>rw [if_pos rfl];have:=h2 hl;exact ⟨hq,by omega⟩
  | false=>rw [if_neg (by decide)];have:=h1 hl;exact ⟨hp,by omega⟩
theorem spanLo_rk {T:Nat} (hT:T≤65536) {a b c d:Int × Dy} (ha:WfN T a) (hb:WfN T b) (hc:WfN T c) (hd:WfN T d) (mode:Int):rkN (spanLo a b c d) mode=min4 (rkN a mode) (rkN b mode) (rkN c mode) (rkN d mode):=by
  obtain ⟨w1,e1⟩:=low_rk hT ha hb mode
  obtain ⟨w2,e2⟩:=low_rk hT w1 hc mode
  obtain ⟨w3,e3⟩:=low_rk hT w2 hd mode
  show rkN (lowN (lowN (lowN a b) c) d) mode=_
  unfold min4
  rw [e3,e2,e1];omega
theorem spanHi_rk {T:Nat} (hT:T≤65536) {a b c d:Int × Dy} (ha:WfN T a) (hb:WfN T b) (hc:WfN T c) (hd:WfN T d) (mode:Int):rkN (spanHi a b c d) mode=max4 (rkN a mode) (rkN b mode) (rkN c mode) (rkN d mode):=by
  obtain ⟨w1,e1⟩:=high_rk hT ha hb mode
  obtain ⟨w2,e2⟩:=high_rk hT w1 hc mode
  obtain ⟨w3,e3⟩:=high_rk hT w2 hd mode
  show rkN (highN (highN (highN a b) c) d) mode=_
  unfold max4
  rw [e3,e2,e1];omega
theorem num_wf {f:Nat} (h:Nm f):(f=9218868437227405312∧numI f=1)∨(f=18442240474082181120∧numI f = -1)∨(numI f=0∧numD f=fdy f∧finB f=true):=by
  by_cases h1:f=9218868437227405312
  · exact Or.inl ⟨h1,by unfold numI;rw [if_pos h1]⟩
  · by_cases h2:f=18442240474082181120
    · exact Or.inr (Or.inl ⟨h2,by unfold numI;rw [if_neg h1,if_pos h2]⟩)
    · exact Or.inr (Or.inr (num_fin h.2 h1 h2 h.1))
theorem numWf {f:Nat} (h:Nm f):WfN 1074 (numI f,numD f):=by
  rcases num_wf h with h1 | h1 | ⟨h1,h2,h3⟩
  · exact Or.inl h1.2
  · exact Or.inr (Or.inl h1.2)
  · refine Or.inr (Or.inr ⟨h1,fzs f,?_⟩)
    show Is (numD f) _ _
    rw [h2];exact fdy_is h3
theorem num_rk {f:Nat} (h:Nm f) (mode:Int):rkN (numI f,numD f) mode=frank f:=by
  unfold rkN
  rw [rnN_num h.1 h.2,(plain_facts _).2]
theorem sgN_ways {f:Nat} (h:Nm f):sgN (numI f) (numD f)=if 0<frank f then 1 else if frank f<0 then -1 else 0:=by
  rw [sgN_num h.1 h.2];unfold sgn3;split <;> (try split) <;> (try split) <;> omega
theorem rz_zero (e mode:Int):frank (rz 0 e mode)=0:=by unfold rz;rw [if_pos rfl];decide
theorem is_zero (T:Nat):Is (some (0,0)) T 0:=⟨0,0,rfl,Or.inl ⟨rfl,rfl⟩,by omega,by simp⟩
theorem prod_rk {a c:Nat} (ha:Nm a) (hc:Nm c) (mode:Int):WfN 2148 (prodN a c)∧rkN (prodN a c) mode=rk (fmulF a c mode):=by
  have sa:=sgN_ways ha
  have sc:=sgN_ways hc
  by_cases h0:frank a=0∨frank c=0
  · have hp:prodN a c=(0,some (0,0)):=by
      have hz:sgN (numI a) (numD a)*sgN (numI c) (numD c)=0:=by
        rw [sa,sc]
        rcases h0 with h | h
        · rw [if_neg (by omega),if_neg (by omega),Int.zero_mul]
        · rw [if_neg (show ¬ 0<frank c by omega),if_neg (show ¬ frank c<0 by omega),Int.mul_zero]
      unfold prodN prodI prodD
      rw [if_neg (by omega),if_pos hz]
    rw [hp]
    refine ⟨Or.inr (Or.inr ⟨rfl,0,is_zero 2148⟩),?_⟩
    rw [rkN_fin (p:=(0,some (0,0))) rfl (is_zero 2148),rz_zero]
    rcases h0 with h | h
    · rw [fmulF_comm,mul_by_zero mode hc.2 (zero_rank.1 h)]
    · rw [mul_by_zero mode ha.2 (zero_rank.1 h)]
  · have za:zeroB a=false:=by
      cases z:zeroB a with
      | true=>exact absurd (Or.inl (zero_rank.2 z)) h0
      | false=>rfl
    have zc:zeroB c=false:=by
      cases z:zeroB c with
      | true=>exact absurd (Or.inr (zero_rank.2 z)) h0
      | false=>rfl
    have hsa:frank a≠0:=fun h=>h0 (Or.inl h)
    have hsc:frank c≠0:=fun h=>h0 (Or.inr h)
    obtain ⟨a1,a2⟩:=sign_rank za
    obtain ⟨c1,c2⟩:=sign_rank zc
    -- the sign of the product
    have hs:sgN (numI a) (numD a)*sgN (numI c) (numD c)=if fneg a != fneg c then -1 else 1:=by
      rw [sa,sc]
      cases na:fneg a <;> cases nc:fneg c <;> simp only [na,nc,Bool.false_eq_true,false_implies,true_implies] at a1 a2 c1 c2
      · rw [if_pos a2,if_pos c2];rfl
      · rw [if_pos a2,if_neg (by omega),if_pos c1];rfl
      · rw [if_neg (by omega),if_pos a1,if_pos c2];rfl
      · rw [if_neg (by omega),if_pos a1,if_neg (by omega),if_pos c1];rfl
    have hne:sgN (numI a) (numD a)*sgN (numI c) (numD c)≠0:=by rw [hs];split <;> omega
    by_cases hi:numI a≠0∨numI c≠0
    · have h1:(prodN a c).1=if fneg a != fneg c then -1 else 1:=by
        unfold prodN prodI
        rw [if_pos ⟨hne,hi⟩,hs]
      have hr:rk (fmulF a c mode)=if fneg a != fneg c then -9218868437227405312 else 9218868437227405312:=by
        rcases hi with h | h
        · have ia:infB a=true:=by
            rcases num_wf ha with k | k | k
            · rw [k.1];decide
            · rw [k.1];decide
            · exact absurd k.1 h
          rw [fmulF_comm,mul_by_inf mode hc.2 zc ia]
          cases fneg a <;> cases fneg c <;> rfl
        · have ic:infB c=true:=by
            rcases num_wf hc with k | k | k
            · rw [k.1];decide
            · rw [k.1];decide
            · exact absurd k.1 h
          rw [mul_by_inf mode ha.2 za ic]
      rw [hr]
      generalize (fneg a != fneg c)=s at h1
      cases s with
      | true=>rw [if_pos rfl] at h1 ⊢;exact ⟨Or.inr (Or.inl h1),rkN_low h1 mode⟩
      | false=>rw [if_neg (by decide)] at h1 ⊢;exact ⟨Or.inl h1,rkN_top h1 mode⟩
    · have ia:numI a=0:=Classical.not_not.1 fun h=>hi (Or.inl h)
      have ic:numI c=0:=Classical.not_not.1 fun h=>hi (Or.inr h)
      obtain ⟨da,fa⟩:numD a=fdy a∧finB a=true:=by
        rcases num_wf ha with k | k | k
        · exact absurd ia (by omega)
        · exact absurd ia (by omega)
        · exact k.2
      obtain ⟨dc,fc⟩:numD c=fdy c∧finB c=true:=by
        rcases num_wf hc with k | k | k
        · exact absurd ic (by omega)
        · exact absurd ic (by omega)
        · exact k.2
      have h1:(prodN a c).1=0:=by unfold prodN prodI;rw [if_neg (fun h=>hi h.2)]
      have h2:(prodN a c).2=dmul (fdy a) (fdy c):=by unfold prodN prodD;rw [if_neg hne,if_neg hi,da,dc]
      have h3:Is (prodN a c).2 2148 (fzs a*fzs c):=by rw [h2];exact fdy_mul fa fc
      refine ⟨Or.inr (Or.inr ⟨h1,_,h3⟩),?_⟩
      rw [rkN_fin h1 h3]
      obtain ⟨m1,m2⟩:=mul_fin_rank mode fa fc
      rw [rk_num m1,m2];rfl
theorem frdF_lt2 (d:Dy) (mode:Int):frdF d mode<18446744073709551616:=by
  unfold frdF
  split
  · omega
  · exact (rz_facts _ _ _).2
theorem plain_twice (x:Nat):plainF (plainF x)=plainF x:=by unfold plainF;split <;> simp_all
theorem rnN_lt (p:Int × Dy) (mode:Int):rnN p.1 p.2 mode<18446744073709551616:=by
  unfold rnN;split
  · omega
  · split
    · omega
    · exact plainF_lt (frdF_lt2 _ _)
theorem rnN_plain (p:Int × Dy) (mode:Int):plainF (rnN p.1 p.2 mode)=rnN p.1 p.2 mode:=by
  unfold rnN;split
  · rfl
  · split
    · rfl
    · exact plain_twice _
theorem rnN_is {p:Int × Dy} {mode:Int} {x:Nat} (lx:x<18446744073709551616) (h:rkN p mode=frank x):rnN p.1 p.2 mode=plainF x:=by
  rw [←rnN_plain];exact plain_eq (rnN_lt p mode) lx h
theorem mul_same {a b c d:Nat} (g:Good a b) (g':Good c d):rnN (mulLo a b c d).1 (mulLo a b c d).2 1=plainF (cornLo fmulF a b c d)∧rnN (mulHi a b c d).1 (mulHi a b c d).2 2=plainF (cornHi fmulF a b c d):=by
  obtain ⟨gm,m1,m2⟩:=mul_good g g'
  have p1:=prod_rk g.nm.1 g'.nm.1
  have p2:=prod_rk g.nm.1 g'.nm.2
  have p3:=prod_rk g.nm.2 g'.nm.1
  have p4:=prod_rk g.nm.2 g'.nm.2
  refine ⟨rnN_is gm.l1 ?_,rnN_is gm.l2 ?_⟩
  · unfold mulLo
    rw [spanLo_rk (by omega) (p1 1).1 (p2 1).1 (p3 1).1 (p4 1).1,(p1 1).2,(p2 1).2,(p3 1).2,(p4 1).2,m1];rfl
  · unfold mulHi
    rw [spanHi_rk (by omega) (p1 1).1 (p2 1).1 (p3 1).1 (p4 1).1,(p1 2).2,(p2 2).2,(p3 2).2,(p4 2).2,m2];rfl
theorem hull_same {a b c d:Nat} (g:Good a b) (g':Good c d):rnN (hullNLo a b c d).1 (hullNLo a b c d).2 1=hullLo a c∧rnN (hullNHi a b c d).1 (hullNHi a b c d).2 2=hullHi b d:=by
  have w1:=numWf g.nm.1
  have w2:=numWf g.nm.2
  have w3:=numWf g'.nm.1
  have w4:=numWf g'.nm.2
  have la:=g.le
  have lb:=g'.le
  have l2:∀ x∈[a,c],x<18446744073709551616:=two_lt g.l1 g'.l1
  have l3:∀ x∈[b,d],x<18446744073709551616:=two_lt g.l2 g'.l2
  constructor
  · unfold hullLo
    refine rnN_is (leastF_lt l2) ?_
    unfold hullNLo
    rw [spanLo_rk (by omega) w1 w2 w3 w4,num_rk g.nm.1,num_rk g.nm.2,num_rk g'.nm.1,num_rk g'.nm.2,(least_two g.n1 g'.n1).2]
    unfold min4;omega
  · unfold hullHi
    refine rnN_is (greatF_lt l3) ?_
    unfold hullNHi
    rw [spanHi_rk (by omega) w1 w2 w3 w4,num_rk g.nm.1,num_rk g.nm.2,num_rk g'.nm.1,num_rk g'.nm.2,(great_two g.n2 g'.n2).2]
    unfold max4;omega
theorem sgN_iff {f:Nat} (h:Nm f):(sgN (numI f) (numD f)≤0↔frank f≤0)∧(0≤sgN (numI f) (numD f)↔0≤frank f):=by
  rw [sgN_ways h];split <;> (try split) <;> omega
theorem fdy_root2 {x:Nat} (fx:finB x=true) (h:0<frank x):Is (fdy x) (1074+1074) ((fz x*2^low74:Nat):Int):=by
  obtain ⟨zx,sx,-⟩:=pos_parts h
  have h1:=fdy_up fx
  rw [pos_fzs sx] at h1
  rw [Int.natCast_mul,Int.natCast_pow]
  exact h1
theorem sq_abs {a p:Nat} (na:nanB a=false) (np:nanB p=false) (h:frank p=if frank a<0 then -frank a else frank a) (mode:Int):frank (fmulF p p mode)=frank (fmulF a a mode):=by
  have hm:fmag p=fmag a:=by
    unfold frank at h
    revert h;split <;> split <;> split <;> omega
  have hz:fz p=fz a:=by rw [←fz_mag p,←fz_mag a,hm]
  rcases fin_or na with fa | ia
  · have fp:finB p=true:=by unfold finB at fa ⊢;rw [hm];exact fa
    rw [(mul_fin_rank mode fa fa).2,(mul_fin_rank mode fp fp).2]
    have:fzs p*fzs p=fzs a*fzs a:=by
      have h1:∀ x:Nat,fzs x*fzs x=(fz x:Int)*fz x:=fun x=>by unfold fzs;split <;> simp only [Int.neg_mul_neg]
      rw [h1,h1,hz]
    rw [this]
  · have ip:infB p=true:=by unfold infB at ia ⊢;rw [hm];exact ia
    have z1:=(inf_not ia).2
    have z2:=(inf_not ip).2
    have e1:=mul_by_inf mode na z1 ia
    have e2:=mul_by_inf mode np z2 ip
    rw [rk_num (sqr_num mode na)] at e1
    rw [rk_num (sqr_num mode np)] at e2
    rw [e1,e2];simp
theorem sq_rank {p q:Nat} (mode:Int) (np:nanB p=false) (nq:nanB q=false) (h0:0≤frank p) (h:frank p=frank q):frank (fmulF p p mode)=frank (fmulF q q mode) :=
  Int.le_antisymm (sqr_mono mode np nq h0 (by omega)) (sqr_mono mode nq np (by omega) (by omega))
theorem sq_same {a b:Nat} (g:Good a b):rnN (sqrNLo a b).1 (sqrNLo a b).2 1=plainF (fmulF (migF a b) (migF a b) 1)∧rnN (sqrNHi a b).1 (sqrNHi a b).2 2=plainF (fmulF (magF a b) (magF a b) 2):=by
  obtain ⟨n1,n2,r2,r1⟩:=size_facts g
  obtain ⟨na,ea⟩:=abs_rank g.n1
  obtain ⟨nb,eb⟩:=abs_rank g.n2
  have gs:=sqr_good g
  have p1:=prod_rk g.nm.1 g.nm.1
  have p2:=prod_rk g.nm.2 g.nm.2
  have q1:∀ mode,rkN (prodN a a) mode=frank (fmulF (fabsF a) (fabsF a) mode):=fun mode=>by
    rw [(p1 mode).2,rk_num (sqr_num mode g.n1),sq_abs g.n1 na ea]
  have q2:∀ mode,rkN (prodN b b) mode=frank (fmulF (fabsF b) (fabsF b) mode):=fun mode=>by
    rw [(p2 mode).2,rk_num (sqr_num mode g.n2),sq_abs g.n2 nb eb]
  have a0:0≤frank (fabsF a):=by rw [ea];split <;> omega
  have b0:0≤frank (fabsF b):=by rw [eb];split <;> omega
  rw [←ea,←eb] at r1 r2
  have hle:=g.le
  constructor
  · refine rnN_is gs.l1 ?_
    have sa:=(sgN_iff g.nm.1).1
    have sb:=(sgN_iff g.nm.2).2
    unfold sqrNLo
    by_cases h:frank a≤0∧0≤frank b
    · rw [if_pos (by rw [sa,sb];exact h)]
      rw [if_pos h] at r1
      rw [rkN_fin (p:=(0,some (0,0))) (T:=2148) rfl (is_zero 2148),rz_zero]
      have hz:=zero_rank.1 r1
      have:=mul_by_zero 1 n1 hz
      rw [rk_num gs.n1] at this
      exact this.symm
    · rw [if_neg (by rw [sa,sb];exact h)]
      rw [if_neg h] at r1
      rw [spanLo_rk (by omega) (p1 1).1 (p2 1).1 (p1 1).1 (p2 1).1,q1,q2]
      unfold min4
      rcases Int.le_total (frank (fabsF a)) (frank (fabsF b)) with hl | hl
      · have m:=sqr_mono 1 na nb a0 hl
        rw [sq_rank 1 n1 na (by omega) (by omega)];omega
      · have m:=sqr_mono 1 nb na b0 hl
        rw [sq_rank 1 n1 nb (by omega) (by omega)];omega
  · refine rnN_is gs.l2 ?_
    unfold sqrNHi
    rw [spanHi_rk (by omega) (p1 1).1 (p2 1).1 (p1 1).1 (p2 1).1,q1,q2]
    unfold max4
    rcases Int.le_total (frank (fabsF a)) (frank (fabsF b)) with hl | hl
    · have m:=sqr_mono 2 na nb a0 hl
      rw [sq_rank 2 n2 nb (by omega) (by omega)];omega
    · have m:=sqr_mono 2 nb na b0 hl
      rw [sq_rank 2 n2 na (by omega) (by omega)];omega
theorem plain_big {x:Nat} (h:x<9218868437227405312):plainF x=x:=by unfold plainF;rw [if_neg (by omega)]
theorem root_same {a b:Nat} (g:Good a b) :
    (if 0<sgN (numI a) (numD a) then ((fsqrtF a 1:Nat):Int) else 0)=((rootLo a:Nat):Int) ∧
    (if b=9218868437227405312 then (b:Int) else ((plainF (fsqrtF b 2):Nat):Int))=((rootHi b:Nat):Int):=by
  have sa:=sgN_ways g.nm.1
  constructor
  · unfold rootLo
    have l1:lessF 18442240474082181120 0=true:=by decide
    by_cases h:0<frank a
    · have hg:greatF [0,a]=a:=by
        have l2:lessF 0 a=true:=by unfold lessF;rw [g.n1,show frank 0=0 from by decide,decide_eq_true h];decide
        unfold greatF
        simp only [List.foldl,l1,l2,if_true]
      rw [if_pos (by rw [sa,if_pos h];omega),hg]
      have fa:=fin_of_rank g.n1 (by omega) g.lo
      have hr:=(rootV_encl (fdy_root2 fa h)).1
      rw [fsqrt_fin fa h,plain_big hr]
    · have hg:greatF [0,a]=0:=by
        have l2:lessF 0 a=false:=by unfold lessF;rw [g.n1,show frank 0=0 from by decide,decide_eq_false h];decide
        unfold greatF
        simp only [List.foldl,l1,l2,if_true,Bool.false_eq_true,if_false]
      rw [if_neg (by rw [sa,if_neg h];split <;> omega),hg,fsqrt_zero_rank (by decide)];rfl
  · unfold rootHi
    by_cases h:b=9218868437227405312
    · rw [if_pos h,fsqrt_top h,h];rfl
    · rw [if_neg h]
theorem div_both {u t:Nat} (hu:Nm u) (ht:Nm t) (mode:Int):fdivF (fnegF u) (fnegF t) mode=fdivF u t mode:=by
  obtain ⟨a1,a2,a3,a4,a5,a6,a7,a8⟩:=neg_facts hu.1 hu.2
  obtain ⟨b1,b2,b3,b4,b5,b6,b7,b8⟩:=neg_facts ht.1 ht.2
  unfold fdivF
  rw [a1,a2,a3,a5,a6,a7,b1,b2,b3,b5,b6,b7,hu.2,ht.2]
  have:((!fneg u) != !fneg t)=(fneg u != fneg t):=by cases fneg u <;> cases fneg t <;> rfl
  rw [this]
theorem div_places {u u' t t':Nat} (hu:nanB u=false) (hu':nanB u'=false) (ht:nanB t=false) (ht':nanB t'=false) (hp:0<frank t) (h1:frank u=frank u') (h2:frank t=frank t') (mode:Int):rk (fdivF u t mode)=rk (fdivF u' t' mode):=by
  have a1:=div_mono_left mode hu hu' ht hp (by omega)
  have a2:=div_mono_left mode hu' hu ht hp (by omega)
  have b1:=div_anti_right mode hu' ht ht' hp (by omega)
  have b2:=div_anti_right mode hu' ht' ht (by omega) (by omega)
  rcases Int.le_total 0 (frank u') with h | h
  · have:=b1.1 h;have:=b2.1 h;omega
  · have:=b1.2 h;have:=b2.2 h;omega
theorem quoN_rk {u t:Nat} (hu:Nm u) (ht:PosD t) (mode:Int):plainF (quoN (numI u) (numD u) (numI t) (numD t) mode)=quoN (numI u) (numD u) (numI t) (numD t) mode∧quoN (numI u) (numD u) (numI t) (numD t) mode<18446744073709551616∧frank (quoN (numI u) (numD u) (numI t) (numD t) mode)=rk (fdivF u t mode):=by
  have nt:Nm t:=⟨ht.1,ht.2.1⟩
  obtain ⟨zt,st,-⟩:=pos_parts ht.2.2
  unfold quoN
  rcases num_wf nt with k | k | k
  · rw [if_pos (by rw [k.2];decide)]
    refine ⟨rfl,by omega,?_⟩
    rw [div_by_inf mode hu.2 (by rw [k.1];decide)];decide
  · exact absurd ht.2.2 (by rw [k.1];decide)
  · rw [if_neg (by rw [k.1];decide)]
    have stt:sgN (numI t) (numD t)=1:=by rw [sgN_ways nt,if_pos ht.2.2]
    rcases num_wf hu with j | j | j
    · rw [if_pos (by rw [j.2];decide),stt,if_pos (by rw [sgN_ways hu,j.1];decide)]
      refine ⟨rfl,by omega,?_⟩
      rw [div_of_inf mode (by rw [j.1];decide) k.2.2 zt st,if_neg (by rw [j.1];decide)];decide
    · rw [if_pos (by rw [j.2];decide),stt,if_neg (by rw [sgN_ways hu,j.1];decide)]
      refine ⟨rfl,by omega,?_⟩
      rw [div_of_inf mode (by rw [j.1];decide) k.2.2 zt st,if_pos (by rw [j.1];decide)];decide
    · rw [if_neg (by rw [j.1];decide),k.2.1,j.2.1]
      refine ⟨plain_twice _,?_⟩
      cases zu:zeroB u with
      | true =>
        obtain ⟨m,e,hd,-,-,hN⟩:=fdy_is k.2.2
        have hm:m≠0:=fun h=>by
          rw [h,Int.zero_mul] at hN
          exact nz_fzs zt hN
        have hq:quoV (fdy u) (fdy t) mode=0:=by
          rw [fdy_zero zu,hd]
          unfold quoV
          dsimp only
          rw [if_neg hm,if_pos rfl]
        rw [hq]
        refine ⟨by decide,?_⟩
        have hr:=div_fin_rank mode j.2.2 k.2.2 zt
        rw [rk_num hr.1,hr.2,(zero_not zu).2.2.2,quoS_zero]
        have:∀ s:Bool,sgi s 0=0:=fun s=>by cases s <;> rfl
        rw [this,rz_zero];decide
      | false =>
        rw [←fdiv_fin j.2.2 k.2.2 zu zt]
        refine ⟨plainF_lt (fdiv_lt _),?_⟩
        rw [(plain_facts _).2,rk_num (div_fin_rank mode j.2.2 k.2.2 zt).1]
theorem div_ends {a b c d:Nat} (ha:nanB a=false) (hb:nanB b=false) (hc:PosD c) (hd:PosD d) (h1:frank a≤frank b) (h2:frank c≤frank d) :
    lo4 fdivF a b c d=(if 0≤frank a then rk (fdivF a d 1) else rk (fdivF a c 1)) ∧
    hi4 fdivF a b c d=(if 0≤frank b then rk (fdivF b c 2) else rk (fdivF b d 2)):=by
  have l1:=div_mono_left 1 ha hb hc.2.1 hc.2.2 h1
  have l2:=div_mono_left 1 ha hb hd.2.1 hd.2.2 h1
  have l3:=div_mono_left 2 ha hb hc.2.1 hc.2.2 h1
  have l4:=div_mono_left 2 ha hb hd.2.1 hd.2.2 h1
  have r1:=div_anti_right 1 ha hc.2.1 hd.2.1 hc.2.2 h2
  have r2:=div_anti_right 2 hb hc.2.1 hd.2.1 hc.2.2 h2
  unfold lo4 hi4 min4 max4
  constructor
  · split
    · rename_i h;have:=r1.1 h;omega
    · have:=r1.2 (by omega);omega
  · split
    · rename_i h;have:=r2.1 h;omega
    · have:=r2.2 (by omega);omega
theorem cast_if (p:Prop) [Decidable p] (x y:Nat):(if p then (x:Int) else (y:Int))=((if p then x else y:Nat):Int):=by split <;> rfl
theorem div_same_pos {p q r s x y:Nat} (g:Good p q) (g':Good r s) (hr:0<frank r) (lx:x<18446744073709551616) (ly:y<18446744073709551616) (hx:frank x=lo4 fdivF p q r s) (hy:frank y=hi4 fdivF p q r s) :
    (if 0≤sgN (numI p) (numD p) then ((quoN (numI p) (numD p) (numI s) (numD s) 1:Nat):Int) else ((quoN (numI p) (numD p) (numI r) (numD r) 1:Nat):Int))=((plainF x:Nat):Int) ∧
    (if 0≤sgN (numI q) (numD q) then ((quoN (numI q) (numD q) (numI r) (numD r) 2:Nat):Int) else ((quoN (numI q) (numD q) (numI s) (numD s) 2:Nat):Int))=((plainF y:Nat):Int):=by
  have pr:PosD r:=⟨g'.l1,g'.n1,hr⟩
  have ps:PosD s:=⟨g'.l2,g'.n2,by have:=g'.le;omega⟩
  obtain ⟨e1,e2⟩:=div_ends g.n1 g.n2 pr ps g.le g'.le
  have key:∀ {u t z:Nat} (mode:Int),Nm u→PosD t→z<18446744073709551616→frank z=rk (fdivF u t mode)→quoN (numI u) (numD u) (numI t) (numD t) mode=plainF z:=by
    intro u t z mode hu ht lz hz
    obtain ⟨q1,q2,q3⟩:=quoN_rk hu ht mode
    rw [←q1]
    exact plain_eq q2 lz (by omega)
  rw [cast_if,cast_if]
  simp only [(sgN_iff g.nm.1).2,(sgN_iff g.nm.2).2]
  rw [e1] at hx
  rw [e2] at hy
  constructor
  · congr 1
    split
    · rename_i h;rw [if_pos h] at hx;exact key 1 g.nm.1 ps lx hx
    · rename_i h;rw [if_neg h] at hx;exact key 1 g.nm.1 pr lx hx
  · congr 1
    split
    · rename_i h;rw [if_pos h] at hy;exact key 2 g.nm.2 pr ly hy
    · rename_i h;rw [if_neg h] at hy;exact key 2 g.nm.2 ps ly hy
theorem div_neg_rk {u t:Nat} (hu:Nm u) (ht:NegD t) (mode:Int):rk (fdivF (plainF (fnegF u)) (plainF (fnegF t)) mode)=rk (fdivF u t mode):=by
  have nt:Nm t:=⟨ht.1,ht.2.1⟩
  obtain ⟨a1,-⟩:=neg_facts hu.1 hu.2
  obtain ⟨⟨b0,b1,b2⟩,-,b3,-⟩:=div_turn (u:=u) mode ht
  obtain ⟨p1,p2⟩:=plain_facts (fnegF u)
  obtain ⟨q1,q2⟩:=plain_facts (fnegF t)
  rw [←div_both hu nt mode]
  exact (div_places a1 (by rw [p1];exact a1) b1 (by rw [q1];exact b1) b2 (by rw [p2]) (by rw [q2]) mode).symm
theorem div_same {a b c d p q r s:Nat} (g:Good a b) (g':Good c d) (h0:containsF c d=false)
    (hm:if sgN (numI d) (numD d)<0 then p=plainF (fnegF b)∧q=plainF (fnegF a)∧r=plainF (fnegF d)∧s=plainF (fnegF c) else p=a∧q=b∧r=c∧s=d) :
    (if 0≤sgN (numI p) (numD p) then ((quoN (numI p) (numD p) (numI s) (numD s) 1:Nat):Int) else ((quoN (numI p) (numD p) (numI r) (numD r) 1:Nat):Int))=((plainF (cornLo fdivF a b c d):Nat):Int) ∧
    (if 0≤sgN (numI q) (numD q) then ((quoN (numI q) (numD q) (numI r) (numD r) 2:Nat):Int) else ((quoN (numI q) (numD q) (numI s) (numD s) 2:Nat):Int))=((plainF (cornHi fdivF a b c d):Nat):Int):=by
  obtain ⟨gd,m1,m2⟩:=div_good g g' h0
  have hs:=(sgN_iff g'.nm.2).2
  rcases no_zero g' h0 with hz | hz
  · rw [if_neg (by have:=g'.le;omega)] at hm
    obtain ⟨rfl,rfl,rfl,rfl⟩:=hm
    exact div_same_pos g g' hz gd.l1 gd.l2 m1 m2
  · rw [if_pos (by omega)] at hm
    obtain ⟨rfl,rfl,rfl,rfl⟩:=hm
    obtain ⟨gn,-,-⟩:=neg_good g
    obtain ⟨gn',x1,x2⟩:=neg_good g'
    have hd:NegD d:=⟨g'.l2,g'.n2,hz⟩
    have hc:NegD c:=⟨g'.l1,g'.n1,by have:=g'.le;omega⟩
    refine div_same_pos gn gn' (by omega) gd.l1 gd.l2 ?_ ?_
    · rw [m1];unfold lo4 min4
      rw [div_neg_rk g.nm.2 hd,div_neg_rk g.nm.2 hc,div_neg_rk g.nm.1 hd,div_neg_rk g.nm.1 hc];omega
    · rw [m2];unfold hi4 max4
      rw [div_neg_rk g.nm.2 hd,div_neg_rk g.nm.2 hc,div_neg_rk g.nm.1 hd,div_neg_rk g.nm.1 hc];omega
end Go.Proofs.YtkomhemjodbkpaaGreatDoor
