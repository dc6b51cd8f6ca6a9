import Derived.Test.YtkomhemjodbkpaaGreatDoorIExLawU22
import Derived.Test.YtkomhemjodbkpaaGreatDoorIExLawU21
namespace Go.Proofs.YtkomhemjodbkpaaGreatDoor
def kq:Nat:=2200
def quoS (U V:Nat):Nat:=2*(U*2^kq / V)+if U*2^kq % V≠0 then 1 else 0
theorem quoS_mono {U U' V:Nat} (h:U≤U'):quoS U V≤quoS U' V:=by
  unfold quoS
  have h1:U*2^kq≤U'*2^kq:=Nat.mul_le_mul_right _ h
  generalize U*2^kq=X at *
  generalize U'*2^kq=X' at *
  have h2:X / V≤X' / V:=Nat.div_le_div_right h1
  have d1:=Nat.div_add_mod X V
  have d2:=Nat.div_add_mod X' V
  rcases Nat.lt_or_ge (X / V) (X' / V) with h3 | h3
  · split <;> split <;> omega
  · have h4:X / V=X' / V:=by omega
    rw [h4] at d1
    rw [h4]
    generalize V*(X' / V)=P at *
    split <;> split <;> omega
theorem quoS_anti {U V V':Nat} (hV:0<V) (h:V≤V'):quoS U V'≤quoS U V:=by
  unfold quoS
  generalize U*2^kq=X at *
  have h2:X / V'≤X / V:=Nat.div_le_div_left h hV
  have d1:=Nat.div_add_mod X V
  have d2:=Nat.div_add_mod X V'
  rcases Nat.lt_or_ge (X / V') (X / V) with h3 | h3
  · split <;> split <;> omega
  · have h4:X / V=X / V':=by omega
    rw [h4] at d1
    rw [h4]
    have h5:=Nat.mul_le_mul_right (X / V') h
    generalize V*(X / V')=P at *
    generalize V'*(X / V')=P' at *
    split <;> split <;> omega
theorem quoS_zero (V:Nat):quoS 0 V=0:=by unfold quoS;simp
theorem fla_bit {q:Nat} (s:Bool) (e:Int) (t:Bool) (mode:Int) (h:2^53≤q):fla s q e t mode=fla s (2*q+if t then 1 else 0) (e - 1) false mode:=by
  cases t with
  | true=>exact fla_sticky s e mode h
  | false =>
    have h0:q≠0:=by have:0<2^53:=Nat.pow_pos (by omega);omega
    exact Num.fla ⟨1,0,by simp only [Bool.false_eq_true,if_false];omega,by omega⟩ h0 s mode
theorem sig_no {f:Nat} (h:zeroB f=false):sig f≠0:=fun h1=>of_decide_eq_false h ((sig_zero f).1 h1)
theorem fsh_le {f:Nat} (h:finB f=true):fsh f≤2046:=by
  have h1:fmag f<9218868437227405312:=of_decide_eq_true h
  unfold fsh ffld;omega
theorem div_fin_rank {u t:Nat} (mode:Int) (fu:finB u=true) (ft:finB t=true) (zt:zeroB t=false) :
    nanB (fdivF u t mode)=false∧frank (fdivF u t mode)=frank (rz (sgi (fneg u != fneg t) (quoS (fz u) (fz t))) (-2201) mode):=by
  obtain ⟨u1,u2⟩:=fin_not fu
  obtain ⟨t1,t2⟩:=fin_not ft
  unfold fdivF
  rw [u1,u2,t1,t2,zt]
  simp only [Bool.or_false,Bool.and_false,Bool.false_eq_true,if_false]
  generalize (fneg u != fneg t)=s
  cases zu:zeroB u with
  | true =>
    rw [(zero_not zu).2.2.2,quoS_zero,sgi_zero]
    simp only [if_true]
    obtain ⟨h1,h2,h3⟩:=fin_sgz s
    exact ⟨(fin_not h1).1,by rw [frank_zero h3];exact (frank_zero (by unfold rz;rw [if_pos rfl];decide)).symm⟩
  | false =>
    simp only [Bool.false_eq_true,if_false]
    have su:=sig_no zu
    have st:=sig_no zt
    have hu:=fsh_le fu
    have ht:=fsh_le ft
    obtain ⟨k,hk⟩:∃ k,kq+fsh u - fsh t=k:=⟨_,rfl⟩
    have hk1:154≤k:=by unfold kq at hk;omega
    have hbig:2^53≤sig u*2^k / sig t:=by
      rw [Nat.le_div_iff_mul_le (Nat.pos_of_ne_zero st)]
      have h1:2^53*sig t≤2^53*2^53:=Nat.mul_le_mul_left _ (Nat.le_of_lt (sig_lt t))
      have h2:(2:Nat)^53*2^53≤2^k:=by rw [←Nat.pow_add];exact Nat.pow_le_pow_right (by omega) (by omega)
      exact Nat.le_trans h1 (Nat.le_trans h2 (Nat.le_mul_of_pos_left _ (Nat.pos_of_ne_zero su)))
    have hl:=div_long (neg:=s) (mode:=mode) (N:=sig u) (D:=sig t) (A:=sig u) (C:=sig t) (i:=0) (l:=0) (k:=k) (ex:=-1074+(fsh u:Int)) (ey:=-1074+(fsh t:Int)) (by simp) (by simp) su st (sig_lt u) (sig_lt t) hbig
    have hE : -1074+(fsh u:Int)+((0:Nat):Int) - (-1074+(fsh t:Int)+((0:Nat):Int)) - (k:Int) = -2200:=by unfold kq at hk;omega
    rw [hE] at hl
    rw [hl]
    obtain ⟨q1,q2⟩:=quo_twos (A:=sig u) (C:=sig t) (i:=fsh u) (l:=fsh t) (k:=kq) (by unfold kq;omega)
    rw [hk] at q1 q2
    have hq:quoS (fz u) (fz t)=2*(sig u*2^k / sig t)+if decide (sig u*2^k % sig t≠0) then 1 else 0:=by
      unfold quoS
      rw [fz_parts,fz_parts,q1]
      refine congrArg (fun x=>2*(sig u*2^k / sig t)+x) ?_
      by_cases h:sig u*2^k % sig t≠0
      · have h2:sig u*2^fsh u*2^kq % (sig t*2^fsh t)≠0:=of_decide_eq_true (by rw [q2];exact decide_eq_true h)
        rw [if_pos h2,decide_eq_true h];rfl
      · have h2:¬ sig u*2^fsh u*2^kq % (sig t*2^fsh t)≠0:=of_decide_eq_false (by rw [q2];exact decide_eq_false h)
        rw [if_neg h2,decide_eq_false h];rfl
    rw [fla_bit s _ _ mode hbig,←hq]
    have hS:quoS (fz u) (fz t)≠0:=by
      rw [hq]
      have h9:0<sig u*2^k / sig t:=Nat.lt_of_lt_of_le (Nat.pow_pos (by decide)) hbig
      exact Nat.ne_of_gt (Nat.lt_of_lt_of_le (Nat.mul_pos (by decide) h9) (Nat.le_add_right _ _))
    generalize quoS (fz u) (fz t)=S at *
    have hr:sgz s+fla s S (-2200 - 1) false mode=rnd (sgi s S) (-2201) mode:=(rnd_sgi s hS _ mode).symm
    rw [hr]
    have hne:sgi s S≠0:=by unfold sgi;split <;> omega
    refine ⟨(rnd_facts _ _ _).1,?_⟩
    unfold rz
    rw [if_neg hne]
theorem fz_of {f:Nat} (h:0≤frank f):(fz f:Int)=fzs f:=by
  cases hz:zeroB f with
  | true=>rw [zero_fzs hz,(zero_not hz).2.2.2];rfl
  | false =>
    have:fneg f=false:=by
      cases h2:fneg f with
      | false=>rfl
      | true=>have:=(sign_rank hz).1 h2;omega
    unfold fzs;rw [this];rfl
theorem pos_parts {t:Nat} (h:0<frank t):zeroB t=false∧fneg t=false∧(finB t=true→0<fz t):=by
  have hz:zeroB t=false:=by
    cases h2:zeroB t with
    | false=>rfl
    | true=>have:=zero_rank.2 h2;omega
  refine ⟨hz,?_,fun _=>?_⟩
  · cases h2:fneg t with
    | false=>rfl
    | true=>have:=(sign_rank hz).1 h2;omega
  · have h0:fmag t≠0:=of_decide_eq_false hz
    exact Nat.pos_of_ne_zero fun h=>h0 ((fz_zero t).1 h)
theorem div_by_inf {u t:Nat} (mode:Int) (hu:nanB u=false) (it:infB t=true):rk (fdivF u t mode)=0:=by
  obtain ⟨n1,n2⟩:=inf_not it
  unfold fdivF
  rw [hu,n1,n2,it]
  cases iu:infB u with
  | true=>simp;exact rk_nan (by decide)
  | false =>
    simp
    obtain ⟨h1,h2,h3⟩:=fin_sgz (fneg u != fneg t)
    rw [rk_num (fin_not h1).1,frank_zero h3]
theorem div_of_inf {u t:Nat} (mode:Int) (iu:infB u=true) (ft:finB t=true) (zt:zeroB t=false) (hp:fneg t=false):rk (fdivF u t mode)=if fneg u then -9218868437227405312 else 9218868437227405312:=by
  obtain ⟨n1,n2⟩:=inf_not iu
  obtain ⟨t1,t2⟩:=fin_not ft
  have hv:fdivF u t mode=9218868437227405312+sgz (fneg u):=by
    unfold fdivF
    rw [n1,n2,t1,t2,zt,iu,hp]
    simp
  have hn:nanB (9218868437227405312+sgz (fneg u))=false:=by cases fneg u <;> decide
  rw [hv,rk_num hn,Nat.add_comm,rank_sgz _ (Nat.le_refl _)]
  rfl
theorem sgi_mono {u u' V:Nat} (hu:nanB u=false) (hu':nanB u'=false) (h:frank u≤frank u'):sgi (fneg u) (quoS (fz u) V)≤sgi (fneg u') (quoS (fz u') V):=by
  have h1:=(fzs_rank hu hu').1 h
  have a1:=fzs_abs u
  have a2:=fzs_abs u'
  unfold fzs at h1
  unfold sgi
  cases hs:fneg u with
  | true =>
    cases hs':fneg u' with
    | true =>
      rw [hs,hs'] at h1
      simp at h1 ⊢
      exact quoS_mono (by omega)
    | false=>first | (simp;done) | (simp;omega)
  | false =>
    cases hs':fneg u' with
    | true =>
      rw [hs,hs'] at h1
      simp at h1
      have e1:fz u=0:=by omega
      have e2:fz u'=0:=by omega
      rw [e1,e2,quoS_zero];simp
    | false =>
      rw [hs,hs'] at h1
      simp at h1 ⊢
      exact quoS_mono (by omega)
theorem rz_sign (S e mode:Int):(0≤S→0≤frank (rz S e mode))∧(S≤0→frank (rz S e mode)≤0):=by
  obtain ⟨p1,p2,p3⟩:=rank_sign S e mode
  rcases Int.lt_trichotomy S 0 with h | h | h
  · rw [p1 h];omega
  · rw [p3 h];omega
  · rw [p2 h];omega
theorem div_mono_left {u u' t:Nat} (mode:Int) (hu:nanB u=false) (hu':nanB u'=false) (ht:nanB t=false) (hp:0<frank t) (h:frank u≤frank u'):rk (fdivF u t mode)≤rk (fdivF u' t mode):=by
  obtain ⟨zt,nt,-⟩:=pos_parts hp
  rcases fin_or ht with ft | it
  · rcases fin_or hu with fu | iu
    · rcases fin_or hu' with fu' | iu'
      · obtain ⟨a1,a2⟩:=div_fin_rank mode fu ft zt
        obtain ⟨b1,b2⟩:=div_fin_rank mode fu' ft zt
        rw [rk_num a1,rk_num b1,a2,b2,nt,Bool.bne_false,Bool.bne_false]
        exact rz_le (sgi_mono hu hu' h) mode
      · rw [div_of_inf mode iu' ft zt nt]
        rcases inf_ends iu' with ⟨h1,h2⟩ | ⟨h1,h2⟩
        · have:=(fin_rank_lt fu).1;omega
        · rw [h1];exact (rk_le _).2
    · rw [div_of_inf mode iu ft zt nt]
      rcases inf_ends iu with ⟨h1,h2⟩ | ⟨h1,h2⟩
      · rw [h1];exact (rk_le _).1
      · rcases fin_or hu' with fu' | iu'
        · have:=(fin_rank_lt fu').2;omega
        · rw [div_of_inf mode iu' ft zt nt]
          rcases inf_ends iu' with ⟨h4,h5⟩ | ⟨h4,h5⟩
          · omega
          · rw [h1,h4];exact Int.le_refl _
  · rw [div_by_inf mode hu it,div_by_inf mode hu' it];exact Int.le_refl _
theorem div_anti_right {u t t':Nat} (mode:Int) (hu:nanB u=false) (ht:nanB t=false) (ht':nanB t'=false) (hp:0<frank t) (h:frank t≤frank t') :
    (0≤frank u→rk (fdivF u t' mode)≤rk (fdivF u t mode))∧(frank u≤0→rk (fdivF u t mode)≤rk (fdivF u t' mode)):=by
  obtain ⟨zt,nt,pt⟩:=pos_parts hp
  obtain ⟨zt',nt',pt'⟩:=pos_parts (t:=t') (by omega)
  rcases fin_or ht with ft | it
  · rcases fin_or hu with fu | iu
    · obtain ⟨a1,a2⟩:=div_fin_rank mode fu ft zt
      rw [rk_num a1,a2,nt,Bool.bne_false]
      have hsg:(0≤frank u→0≤sgi (fneg u) (quoS (fz u) (fz t)))∧(frank u≤0→sgi (fneg u) (quoS (fz u) (fz t))≤0):=by
        cases zu:zeroB u with
        | true=>rw [(zero_not zu).2.2.2,quoS_zero,sgi_zero];omega
        | false =>
          obtain ⟨s1,s2⟩:=sign_rank zu
          unfold sgi
          cases hs:fneg u with
          | true=>have:=s1 hs;simp;omega
          | false=>have:=s2 hs;simp;omega
      rcases fin_or ht' with ft' | it'
      · obtain ⟨b1,b2⟩:=div_fin_rank mode fu ft' zt'
        rw [rk_num b1,b2,nt',Bool.bne_false]
        have hz:fz t≤fz t':=by
          have:=(fzs_rank ht ht').1 h
          rw [←fz_of (f:=t) (by omega),←fz_of (f:=t') (by omega)] at this
          omega
        have hq:=quoS_anti (U:=fz u) (pt ft) hz
        have hz2:zeroB u=true→fz u=0:=fun z=>(zero_not z).2.2.2
        constructor
        · intro h0
          refine rz_le ?_ mode
          cases zu:zeroB u with
          | true=>rw [hz2 zu,quoS_zero,quoS_zero];exact Int.le_refl _
          | false =>
            have hs:fneg u=false:=by
              cases h2:fneg u with
              | false=>rfl
              | true=>have:=(sign_rank zu).1 h2;omega
            rw [hs]
            unfold sgi
            simp
            omega
        · intro h0
          refine rz_le ?_ mode
          cases zu:zeroB u with
          | true=>rw [hz2 zu,quoS_zero,quoS_zero];exact Int.le_refl _
          | false =>
            have hs:fneg u=true:=by
              cases h2:fneg u with
              | true=>rfl
              | false=>have:=(sign_rank zu).2 h2;omega
            rw [hs]
            unfold sgi
            simp
            omega
      · rw [div_by_inf mode hu it']
        exact ⟨fun h0=>(rz_sign _ _ _).1 (hsg.1 h0),fun h0=>(rz_sign _ _ _).2 (hsg.2 h0)⟩
    · rw [div_of_inf mode iu ft zt nt]
      rcases fin_or ht' with ft' | it'
      · rw [div_of_inf mode iu ft' zt' nt']
        exact ⟨fun _=>Int.le_refl _,fun _=>Int.le_refl _⟩
      · rw [div_by_inf mode hu it']
        rcases inf_ends iu with ⟨h1,h2⟩ | ⟨h1,h2⟩
        · rw [h1,h2];simp
        · rw [h1,h2];simp
  · rw [div_by_inf mode hu it]
    have it':infB t'=true:=by
      rcases fin_or ht' with ft' | it'
      · have h1:=(fin_rank_lt ft').2
        rcases inf_ends it with ⟨_,h2⟩ | ⟨_,h2⟩ <;> omega
      · exact it'
    rw [div_by_inf mode hu it']
    exact ⟨fun _=>Int.le_refl _,fun _=>Int.le_refl _⟩
def PosD (x:Nat):Prop:=x<18446744073709551616∧nanB x=false∧0<frank x
def NegD (x:Nat):Prop:=x<18446744073709551616∧nanB x=false∧frank x<0
theorem div_monoP:Mono fdivF Nm PosD where
  left:=fun c t d u mode hc ht hd hu h1 h2=>by
    have a:=div_mono_left mode hc.2 ht.2 hu.2.1 hu.2.2 h1
    have b:=div_mono_left mode ht.2 hd.2 hu.2.1 hu.2.2 h2
    omega
  right:=fun u c t d mode hu hc ht hd h1 h2=>by
    obtain ⟨a1,a2⟩:=div_anti_right (u:=u) mode hu.2 hc.2.1 ht.2.1 hc.2.2 h1
    obtain ⟨b1,b2⟩:=div_anti_right (u:=u) mode hu.2 ht.2.1 hd.2.1 ht.2.2 h2
    rcases Int.le_total 0 (frank u) with h | h
    · have:=a1 h;have:=b1 h;omega
    · have:=a2 h;have:=b2 h;omega
  dirs:=fun t u ht hu ft fu=>by
    obtain ⟨zt,-,-⟩:=pos_parts hu.2.2
    obtain ⟨a1,a2⟩:=div_fin_rank 1 ft fu zt
    obtain ⟨b1,b2⟩:=div_fin_rank 2 ft fu zt
    rw [rk_num a1,rk_num b1,a2,b2]
    exact rz_dirs _ _
theorem div_turn {u t:Nat} (mode:Int) (ht:NegD t):PosD (fnegF t)∧rk (fdivF u t mode) = -rk (fdivF u (fnegF t) (opp mode))∧frank (fnegF t) = -frank t∧(finB t=true→finB (fnegF t)=true):=by
  obtain ⟨h1,h2,-⟩:=neg_rank ht.1 ht.2.1
  refine ⟨⟨fnegF_lt,h1,by have:=ht.2.2;omega⟩,?_,h2,fun hf=>?_⟩
  · rw [fdiv_mirror ht.1,rk_neg (fdiv_lt _)];omega
  · have h8:=(neg_facts ht.1 ht.2.1).2.2.2.2.2.2.2
    unfold finB at hf ⊢
    rw [h8];exact hf
theorem div_monoN:Mono fdivF Nm NegD where
  left:=fun c t d u mode hc ht hd hu h1 h2=>by
    obtain ⟨p,q,-,-⟩:=div_turn (u:=c) mode hu
    obtain ⟨-,q2,-,-⟩:=div_turn (u:=t) mode hu
    obtain ⟨-,q3,-,-⟩:=div_turn (u:=d) mode hu
    have:=div_monoP.left c t d (fnegF u) (opp mode) hc ht hd p h1 h2
    rw [q,q2,q3]
    omega
  right:=fun u c t d mode hu hc ht hd h1 h2=>by
    obtain ⟨p1,q1,r1,-⟩:=div_turn (u:=u) mode hc
    obtain ⟨p2,q2,r2,-⟩:=div_turn (u:=u) mode ht
    obtain ⟨p3,q3,r3,-⟩:=div_turn (u:=u) mode hd
    have:=div_monoP.right u (fnegF d) (fnegF t) (fnegF c) (opp mode) hu p3 p2 p1 (by omega) (by omega)
    rw [q1,q2,q3]
    omega
  dirs:=fun t u ht hu ft fu=>by
    obtain ⟨p1,q1,r1,s1⟩:=div_turn (u:=t) 1 hu
    obtain ⟨-,q2,-,-⟩:=div_turn (u:=t) 2 hu
    obtain ⟨d1,d2,d3⟩:=div_monoP.dirs t (fnegF u) ht p1 ft (s1 fu)
    rw [show opp 1=2 from rfl] at q1
    rw [show opp 2=1 from rfl] at q2
    rw [q1,q2]
    omega
open Go.RowKit
theorem fbA (V:World) (x y:Nat):FB (V.alloc (.cells #[.int .u64 (x:Int),.int .u64 (y:Int)] 23)) V.heap.size [x,y]:=heap_alloc_new V _
theorem fbB (V:World) (x y:Nat) (o:Obj):FB ((V.alloc (.cells #[.int .u64 (x:Int),.int .u64 (y:Int)] 23)).alloc o) V.heap.size [x,y]:=(fbA V x y).below ((Below.refl _ _).alloc (Nat.le_refl _) _)
theorem fbC (V:World) (x y:Nat) (o:Obj):FB ((V.alloc o).alloc (.cells #[.int .u64 (x:Int),.int .u64 (y:Int)] 23)) (V.heap.size+1) [x,y]:=by
  have:=fbA (V.alloc o) x y
  simpa using this
theorem fbAd (V:World) (x y:Nat):FB (V.alloc (.cells #[.int .u64 (x:Int),.int .u64 (y:Int)] 23)).drew V.heap.size [x,y]:=fbA V x y
theorem fbBd (V:World) (x y:Nat) (o:Obj):FB ((V.alloc (.cells #[.int .u64 (x:Int),.int .u64 (y:Int)] 23)).alloc o).drew V.heap.size [x,y]:=fbB V x y o
theorem fbCd (V:World) (x y:Nat) (o:Obj):FB ((V.alloc o).alloc (.cells #[.int .u64 (x:Int),.int .u64 (y:Int)] 23)).drew (V.heap.size+1) [x,y]:=fbC V x y o
theorem eA {V w:World} (h:Ext V w) (o:Obj):Ext V (w.alloc o):=Ext.trans h ((Below.refl _ _).alloc (Nat.le_refl _) _)
theorem eAd (V:World) (o:Obj):Ext V (V.alloc o).drew:=(eA (Ext.refl V) o).drew
theorem eAAd (V:World) (o o':Obj):Ext V ((V.alloc o).alloc o').drew:=(eA (eA (Ext.refl V) o) o').drew
set_option maxRecDepth 100000 in
set_option maxHeartbeats 8000000 in
theorem ihull_yes (a b c d:Nat) (ha:a<18446744073709551616) (hb:b<18446744073709551616) (hc:c<18446744073709551616) (hd:d<18446744073709551616) (h1:validF a b=true) (h2:validF c d=true) (w:World) :
    Calls Tryz.prog 23 #[.agg #[.int .u64 (a:Int),.int .u64 (b:Int)],.agg #[.int .u64 (c:Int),.int .u64 (d:Int)]] w fun e w'=>e=.returned (.agg #[.int .u64 ((hullLo a c:Nat):Int),.int .u64 ((hullHi b d:Nat):Int)])∧Ext w w':=by
  have C1:=Lib.hid (ivalid_at a b ha hb rfl rfl true h1)
  have C2:=Lib.hid (ivalid_at c d hc hd rfl rfl true h2)
  have HL1:=Lib.hid (two_lt ha hc)
  have HL2:=Lib.hid (two_lt hb hd)
  have CB:=between_any (leastF [a,c]) (greatF [b,d])
  unfold hullLo hullHi
  obtain ⟨x,hx⟩:∃ x:Int,((plainF (leastF [a,c]):Nat):Int)=x:=⟨_,rfl⟩
  obtain ⟨y,hy⟩:∃ y:Int,((plainF (greatF [b,d]):Nat):Int)=y:=⟨_,rfl⟩
  rw [hx,hy] at CB ⊢
  have CB:=Lib.hid CB
  clear h1 h2 hx hy ha hb hc hd
  go_enter Tryz.func23,Tryz.ntmps23
  go_upto_region 1 with fail
  obtain ⟨W,hW,hB,hx,hy,hbx,hsz⟩:=ibox_three w a b c d 0 0
  rw [←hW]
  clear hW
  generalize hBe:w.heap.size=B at *
  have HBe:=Lib.hid hBe
  have HB:Hid (Below B w W):=Lib.hid (by rw [←hBe];exact hB)
  clear hBe hB
  have hBs:B+3≤W.heap.size:=hsz
  clear hsz
  have c0:=hx.c0
  have c1:=hx.c1
  have c2:=hy.c0
  have c3:=hy.c1
  go_wp2_with fail
  refine (C1.out _).mono ?_
  rintro r w1 ⟨rfl,hE⟩
  have hx:=hx.below hE
  have hy:=hy.below hE
  have hbx:=hbx.below hE
  have HB:=Lib.hid (HB.out.trans (Below.mono hE (by omega)))
  have hBs:B+3≤w1.heap.size:=by have:=Below.size hE;omega
  clear c0 c1 c2 c3 hE
  have c0:=hx.c0
  have c1:=hx.c1
  have c2:=hy.c0
  have c3:=hy.c1
  go_wp2_with fail
  refine (C2.out _).mono ?_
  rintro r V ⟨rfl,hE⟩
  have hx:=hx.below hE
  have hy:=hy.below hE
  have hbx:=hbx.below hE
  have HB:=Lib.hid (HB.out.trans (Below.mono hE (by omega)))
  have hBs:B+3≤V.heap.size:=by have:=Below.size hE;omega
  clear c0 c1 c2 c3 hE
  have c0:=hx.c0
  have c1:=hx.c1
  have c2:=hy.c0
  have c3:=hy.c1
  have c4:=hbx.c0
  have c5:=hbx.c1
  have c6:=hbx.f 0
  have c7:=hbx.f 1
  have HC:=Lib.hid (show ∀ wx,Ext V wx→(wx.cell? ⟨B,0,none⟩=some (.int .u64 (a:Int))∧wx.cell? ⟨B,1,none⟩=some (.int .u64 (b:Int))∧wx.cell? ⟨B+1,0,none⟩=some (.int .u64 (c:Int))∧wx.cell? ⟨B+1,1,none⟩=some (.int .u64 (d:Int)))∧IBox wx (B+1+1) 0 0 from fun wx h=>⟨⟨(hx.below h).c0,(hx.below h).c1,(hy.below h).c0,(hy.below h).c1⟩,hbx.below h⟩)
  go_upto_region 3 with fail
  have st:Ext V V.drew:=(Below.refl _ _).drew
  go_region_held3 (fun wx=>wx.cell? ⟨B,0,none⟩=some (.int .u64 (a:Int))∧wx.cell? ⟨B,1,none⟩=some (.int .u64 (b:Int))∧wx.cell? ⟨B+1,0,none⟩=some (.int .u64 (c:Int))∧wx.cell? ⟨B+1,1,none⟩=some (.int .u64 (d:Int)))
    (first | exact (HC.out _ (by first | assumption | exact eA (by assumption) _ | exact eAd _ _ | exact eAAd _ _ _ | exact eA (eA (by assumption) _) _)).1 | (refine ⟨?_,?_,?_,?_⟩ <;> go_simp))
    (first
      | (go_at_call 63;refine (least_any _ [a,c] 2 rfl (by omega) HL1.out _ (by first | exact fbAd _ _ _ | exact fbBd _ _ _ _ | exact fbCd _ _ _ _ | exact fbA _ _ _ | exact fbB _ _ _ _ | exact fbC _ _ _ _)).mono ?_;rintro r wa ⟨rfl,hEa⟩;have sta:Ext V wa:=Ext.trans (by first | assumption | exact eA (by assumption) _ | exact eAd _ _ | exact eAAd _ _ _ | exact eA (eA (by assumption) _) _) hEa)
      | (go_at_call 60;refine (greatest_any _ [b,d] 2 rfl (by omega) HL2.out _ (by first | exact fbAd _ _ _ | exact fbBd _ _ _ _ | exact fbCd _ _ _ _ | exact fbA _ _ _ | exact fbB _ _ _ _ | exact fbC _ _ _ _ | exact FB.below (fbCd _ _ _ _) hEa | exact FB.below (fbBd _ _ _ _) hEa | exact FB.below (fbC _ _ _ _) hEa | exact FB.below (fbB _ _ _ _) hEa)).mono ?_;rintro r wb ⟨rfl,hEb⟩;have stb:Ext V wb:=Ext.trans (by first | assumption | exact eA (by assumption) _ | exact eAd _ _ | exact eAAd _ _ _ | exact eA (eA (by assumption) _) _) hEb)
      | (go_at_call 39;refine (CB.out _).mono ?_;rintro r wd ⟨rfl,hEd⟩;have std:Ext V wd:=Ext.trans (by first | assumption | exact eA (by assumption) _ | exact eAd _ _ | exact eAAd _ _ _ | exact eA (eA (by assumption) _) _) hEd;have bz:=(HC.out wd std).2;have z0:=bz.c0;have z1:=bz.c1;have z2:=bz.f 0;have z3:=bz.f 1;obtain ⟨e0,e1,e2,e3⟩:=(HC.out wd std).1))
  all_goals
    have hst:=bz.stored x y
    have y0:=hst.c0
    have y1:=hst.c1
    have HF:=Lib.hid ((HB.out.trans (Below.mono std (by omega))).trans ((only_iset2 wd (B+1+1) (.int .u64 x) (.int .u64 y)).below (by omega)))
    clear hst z0 z1 z2 z3
    go_wp2
    refine bodyPost_ret (v:=.agg #[.int .u64 x,.int .u64 y]) (by simp [results,Tryz.results23,go_sem,y0,y1]) rfl ⟨rfl,?_⟩
    show Below _ _ _
    rw [HBe.out]
    exact HF.out
open Go.RowKit
theorem abs_lt64 (f:Nat):fabsF f<18446744073709551616:=by have:=fmag_lt f;unfold fabsF;split <;> omega
def magF (a b:Nat):Nat:=greatF [fabsF a,fabsF b]
def migF (a b:Nat):Nat:=if containsF a b then 0 else leastF [fabsF a,fabsF b]
theorem magF_lt (a b:Nat):magF a b<18446744073709551616:=greatF_lt (two_lt (abs_lt64 a) (abs_lt64 b))
theorem migF_lt (a b:Nat):migF a b<18446744073709551616:=by
  unfold migF
  split
  · omega
  · exact leastF_lt (two_lt (abs_lt64 a) (abs_lt64 b))
set_option maxRecDepth 100000 in
set_option maxHeartbeats 4000000 in
theorem imag_yes (a b:Nat) (ha:a<18446744073709551616) (hb:b<18446744073709551616) (h1:validF a b=true) (w:World) :
    Calls Tryz.prog 58 #[.agg #[.int .u64 (a:Int),.int .u64 (b:Int)]] w fun e w'=>e=.returned (.int .u64 ((magF a b:Nat):Int))∧Ext w w':=by
  have C1:=Lib.hid (ivalid_at a b ha hb rfl rfl true h1)
  have CA:=absF_any a ha
  have CB:=absF_any b hb
  have HL:=two_lt (abs_lt64 a) (abs_lt64 b)
  unfold magF
  generalize fabsF a=p at *
  generalize fabsF b=q at *
  have CA:=Lib.hid CA
  have CB:=Lib.hid CB
  have HL:=Lib.hid HL
  obtain ⟨R,hR⟩:∃ R:Int,((greatF [p,q]:Nat):Int)=R:=⟨_,rfl⟩
  rw [hR]
  have HR:=Lib.hid hR
  clear h1 ha hb hR
  go_enter Tryz.func58,Tryz.ntmps58
  go_upto_region 1 with fail
  obtain ⟨W,hW,hB,hx,hsz⟩:=ibox_new w a b
  rw [←hW]
  clear hW
  generalize hBe:w.heap.size=B at *
  have HB:=Lib.hid hB
  clear hB hBe
  have c0:=hx.c0
  have c1:=hx.c1
  go_wp2_with fail
  refine (C1.out _).mono ?_
  rintro r V ⟨rfl,hE⟩
  have hx:=hx.below hE
  have HB:=Lib.hid (Ext.trans HB.out hE)
  clear c0 c1 hE
  have c0:=hx.c0
  have c1:=hx.c1
  have HC:=Lib.hid (show ∀ wx,Ext V wx→wx.cell? ⟨B,0,none⟩=some (.int .u64 (a:Int))∧wx.cell? ⟨B,1,none⟩=some (.int .u64 (b:Int)) from fun wx h=>⟨(hx.below h).c0,(hx.below h).c1⟩)
  go_upto_region 3 with fail
  have st:Ext V V.drew:=(Below.refl _ _).drew
  go_region_held3 (fun wx=>wx.cell? ⟨B,0,none⟩=some (.int .u64 (a:Int))∧wx.cell? ⟨B,1,none⟩=some (.int .u64 (b:Int)))
    (first | exact HC.out _ (by first | assumption | exact eA (by assumption) _ | exact eAd _ _ | exact eAAd _ _ _ | exact eA (eA (by assumption) _) _) | (refine ⟨?_,?_⟩ <;> go_simp))
    (first
      | (go_at_call 80;(with_reducible refine (CA.out _).mono ?_);rintro r wa ⟨rfl,rfl⟩)
      | (go_at_call 80;(with_reducible refine (CB.out _).mono ?_);rintro r wb ⟨rfl,rfl⟩)
      | (go_at_call 60;refine (greatest_any _ [p,q] 2 rfl (by omega) HL.out _ (by first | exact fbAd _ _ _ | exact fbA _ _ _ | exact fbBd _ _ _ _ | exact fbB _ _ _ _)).mono ?_;rintro r wd ⟨rfl,hEd⟩;have std:Ext V wd:=Ext.trans (by first | assumption | exact eA (by assumption) _ | exact eAd _ _ | exact eAAd _ _ _) hEd;obtain ⟨e0,e1⟩:=HC.out wd std))
  all_goals
    have HF:=Lib.hid (Ext.trans HB.out std)
    go_wp2
    go_ret
    exact ⟨by first | (rw [←HR.out];done) | (rw [←HR.out];rfl),HF.out⟩
set_option maxRecDepth 100000 in
set_option maxHeartbeats 4000000 in
theorem imig_yes (a b:Nat) (ha:a<18446744073709551616) (hb:b<18446744073709551616) (h1:validF a b=true) (w:World) :
    Calls Tryz.prog 57 #[.agg #[.int .u64 (a:Int),.int .u64 (b:Int)]] w fun e w'=>e=.returned (.int .u64 ((migF a b:Nat):Int))∧Ext w w':=by
  have C1:=Lib.hid (ivalid_at a b ha hb rfl rfl true h1)
  have CZ:=Lib.hid (contains_any a b ha hb)
  have CA:=absF_any a ha
  have CB:=absF_any b hb
  have HL:=two_lt (abs_lt64 a) (abs_lt64 b)
  unfold migF
  generalize fabsF a=p at *
  generalize fabsF b=q at *
  have CA:=Lib.hid CA
  have CB:=Lib.hid CB
  have HL:=Lib.hid HL
  obtain ⟨z,hz⟩:∃ z,containsF a b=z:=⟨_,rfl⟩
  rw [hz] at CZ ⊢
  obtain ⟨R,hR⟩:∃ R:Int,(((if z=true then 0 else leastF [p,q]):Nat):Int)=R:=⟨_,rfl⟩
  rw [hR]
  have HR:=Lib.hid hR
  clear h1 ha hb hR hz
  go_enter Tryz.func57,Tryz.ntmps57
  go_upto_region 1 with fail
  obtain ⟨W,hW,hB,hx,hsz⟩:=ibox_new w a b
  rw [←hW]
  clear hW
  generalize hBe:w.heap.size=B at *
  have HB:=Lib.hid hB
  clear hB hBe
  have c0:=hx.c0
  have c1:=hx.c1
  go_wp2_with fail
  refine (C1.out _).mono ?_
  rintro r V ⟨rfl,hE⟩
  have hx:=hx.below hE
  have HB:=Lib.hid (Ext.trans HB.out hE)
  clear c0 c1 hE
  have c0:=hx.c0
  have c1:=hx.c1
  cases z with
  | true =>
    obtain rfl:R=0:=by rw [←HR.out];rfl
    go_wp2_with fail
    refine (CZ.out _).mono ?_
    rintro r V2 ⟨rfl,hE⟩
    have HF:=Lib.hid (Ext.trans HB.out hE)
    go_wp2
    go_ret
    exact ⟨rfl,HF.out⟩
  | false =>
    go_wp2_with fail
    refine (CZ.out _).mono ?_
    rintro r V2 ⟨rfl,hE⟩
    have hx:=hx.below hE
    have HB:=Lib.hid (Ext.trans HB.out hE)
    clear c0 c1 hE
    obtain ⟨V,hV⟩:∃ V,V=V2:=⟨_,rfl⟩
    subst hV
    have c0:=hx.c0
    have c1:=hx.c1
    have HC:=Lib.hid (show ∀ wx,Ext V wx→wx.cell? ⟨B,0,none⟩=some (.int .u64 (a:Int))∧wx.cell? ⟨B,1,none⟩=some (.int .u64 (b:Int)) from fun wx h=>⟨(hx.below h).c0,(hx.below h).c1⟩)
    go_upto_region 5 with fail
    have st:Ext V V.drew:=(Below.refl _ _).drew
    go_region_held3 (fun wx=>wx.cell? ⟨B,0,none⟩=some (.int .u64 (a:Int))∧wx.cell? ⟨B,1,none⟩=some (.int .u64 (b:Int)))
      (first | exact HC.out _ (by first | assumption | exact eA (by assumption) _ | exact eAd _ _ | exact eAAd _ _ _ | exact eA (eA (by assumption) _) _) | (refine ⟨?_,?_⟩ <;> go_simp))
      (first
        | (go_at_call 80;(with_reducible refine (CA.out _).mono ?_);rintro r wa ⟨rfl,rfl⟩)
        | (go_at_call 80;(with_reducible refine (CB.out _).mono ?_);rintro r wb ⟨rfl,rfl⟩)
        | (go_at_call 63;refine (least_any _ [p,q] 2 rfl (by omega) HL.out _ (by first | exact fbAd _ _ _ | exact fbA _ _ _ | exact fbBd _ _ _ _ | exact fbB _ _ _ _)).mono ?_;rintro r wd ⟨rfl,hEd⟩;have std:Ext V wd:=Ext.trans (by first | assumption | exact eA (by assumption) _ | exact eAd _ _ | exact eAAd _ _ _) hEd;obtain ⟨e0,e1⟩:=HC.out wd std))
    all_goals
      have HF:=Lib.hid (Ext.trans HB.out std)
      go_wp2
      go_ret
      exact ⟨by first | (rw [←HR.out];done) | (rw [←HR.out];rfl),HF.out⟩
set_option maxRecDepth 100000 in
set_option maxHeartbeats 4000000 in
theorem isqr_yes (a b:Nat) (ha:a<18446744073709551616) (hb:b<18446744073709551616) (h1:validF a b=true) (w:World) :
    Calls Tryz.prog 19 #[.agg #[.int .u64 (a:Int),.int .u64 (b:Int)]] w fun e w'=>e=.returned (.agg #[.int .u64 ((plainF (fmulF (migF a b) (migF a b) 1):Nat):Int),.int .u64 ((plainF (fmulF (magF a b) (magF a b) 2):Nat):Int)])∧Ext w w':=by
  have C1:=Lib.hid (ivalid_at a b ha hb rfl rfl true h1)
  have CI:=imig_yes a b ha hb h1
  have CG:=imag_yes a b ha hb h1
  have l1:=migF_lt a b
  have l2:=magF_lt a b
  generalize migF a b=p at *
  generalize magF a b=q at *
  have CI:=Lib.hid CI
  have CG:=Lib.hid CG
  have M1:=fmul_any p p 1 l1 l1
  have M2:=fmul_any q q 2 l2 l2
  have CB:=between_any (fmulF p p 1) (fmulF q q 2)
  obtain ⟨x,hx⟩:∃ x:Int,((plainF (fmulF p p 1):Nat):Int)=x:=⟨_,rfl⟩
  obtain ⟨y,hy⟩:∃ y:Int,((plainF (fmulF q q 2):Nat):Int)=y:=⟨_,rfl⟩
  rw [hx,hy] at CB ⊢
  generalize fmulF p p 1=r1 at *
  generalize fmulF q q 2=r2 at *
  have M1:=Lib.hid M1
  have M2:=Lib.hid M2
  have CB:=Lib.hid CB
  clear hx hy l1 l2 h1 ha hb
  go_enter Tryz.func19,Tryz.ntmps19
  go_upto_region 1 with fail
  obtain ⟨W,hW,hB,hx,hbx,hsz⟩:=ibox_two w a b 0 0
  rw [←hW]
  clear hW
  generalize hBe:w.heap.size=B at *
  have HBe:=Lib.hid hBe
  have HB:Hid (Below B w W):=Lib.hid (by rw [←hBe];exact hB)
  clear hBe hB
  have hBs:B+2≤W.heap.size:=hsz
  clear hsz
  have c0:=hx.c0
  have c1:=hx.c1
  go_wp2_with fail
  refine (C1.out _).mono ?_
  rintro r V ⟨rfl,hE⟩
  have hx:=hx.below hE
  have hbx:=hbx.below hE
  have HB:=Lib.hid (HB.out.trans (Below.mono hE (by omega)))
  have hBs:B+2≤V.heap.size:=by have:=Below.size hE;omega
  clear c0 c1 hE
  have c0:=hx.c0
  have c1:=hx.c1
  have HC:=Lib.hid (show ∀ wx,Ext V wx→wx.cell? ⟨B,0,none⟩=some (.int .u64 (a:Int))∧wx.cell? ⟨B,1,none⟩=some (.int .u64 (b:Int)) from fun wx h=>⟨(hx.below h).c0,(hx.below h).c1⟩)
  go_upto_region 3 with fail
  have st:Ext V V.drew:=(Below.refl _ _).drew
  go_region_held3 (fun wx=>wx.cell? ⟨B,0,none⟩=some (.int .u64 (a:Int))∧wx.cell? ⟨B,1,none⟩=some (.int .u64 (b:Int)))
    (first | exact HC.out _ (by assumption))
    (first
      | (go_at_call 57;refine (CI.out _).mono ?_;rintro r wa ⟨rfl,hEa⟩;have sta:Ext V wa:=Ext.trans (by assumption) hEa)
      | (go_at_call 58;refine (CG.out _).mono ?_;rintro r wb ⟨rfl,hEb⟩;have stb:Ext V wb:=Ext.trans (by assumption) hEb))
  clear c0 c1
  go_wp2_with fail
  refine (M1.out _).mono ?_
  rintro r wc ⟨rfl,hEc⟩
  go_wp2_with fail
  refine (M2.out _).mono ?_
  rintro r wd ⟨rfl,hEd⟩
  go_wp2_with fail
  refine (CB.out _).mono ?_
  rintro r we ⟨rfl,hEe⟩
  have std:Ext V we:=Ext.trans (Ext.trans (Ext.trans stb hEc) hEd) hEe
  have bz:=hbx.below std
  have z0:=bz.c0
  have z1:=bz.c1
  have z2:=bz.f 0
  have z3:=bz.f 1
  have hst:=bz.stored x y
  have y0:=hst.c0
  have y1:=hst.c1
  have HF:=Lib.hid ((HB.out.trans (Below.mono std (by omega))).trans ((only_iset2 we (B+1) (.int .u64 x) (.int .u64 y)).below (by omega)))
  clear hst
  go_wp2
  refine bodyPost_ret (v:=.agg #[.int .u64 x,.int .u64 y]) (by simp [results,Tryz.results19,go_sem,y0,y1]) rfl ⟨rfl,?_⟩
  show Below _ _ _
  rw [HBe.out]
  exact HF.out
end Go.Proofs.YtkomhemjodbkpaaGreatDoor
