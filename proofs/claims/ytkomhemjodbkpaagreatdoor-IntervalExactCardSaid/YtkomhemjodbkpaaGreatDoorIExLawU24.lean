import Derived.Test.YtkomhemjodbkpaaGreatDoorIExLawU23
import Derived.Test.YtkomhemjodbkpaaGreatDoorIExLawU22
import Derived.Test.YtkomhemjodbkpaaGreatDoorIExLawU13
import Derived.Test.YtkomhemjodbkpaaGreatDoorIExLawU4
import Derived.Test.YtkomhemjodbkpaaGreatDoorIExLawU17
import Derived.Test.YtkomhemjodbkpaaGreatDoorIExLawU14
import Derived.Test.YtkomhemjodbkpaaGreatDoorIExLawU3
namespace Go.Proofs.YtkomhemjodbkpaaGreatDoor
open Go Go.RowKit
theorem valid_neg {a b:Nat} (ha:a<18446744073709551616) (hb:b<18446744073709551616) (h:validF a b=true):validF (fnegF b) (fnegF a)=true:=by
  rw [valid_iff ha hb] at h
  obtain ⟨n1,n2,h1,h2,h3⟩:=h
  rw [valid_iff fnegF_lt fnegF_lt]
  obtain ⟨p1,p2,-⟩:=neg_rank ha n1
  obtain ⟨q1,q2,-⟩:=neg_rank hb n2
  exact ⟨q1,p1,by omega,by omega,by omega⟩
theorem valid_plain {a b:Nat} (ha:a<18446744073709551616) (hb:b<18446744073709551616) (h:validF a b=true):validF (plainF a) (plainF b)=true:=by
  rw [valid_iff ha hb] at h
  rw [valid_iff (plainF_lt ha) (plainF_lt hb),(plain_facts a).1,(plain_facts a).2,(plain_facts b).1,(plain_facts b).2]
  exact h
set_option maxRecDepth 100000 in
set_option maxHeartbeats 4000000 in
theorem ineg_yes (a b:Nat) (ha:a<18446744073709551616) (hb:b<18446744073709551616) (h1:validF a b=true) (w:World) :
    Calls Tryz.prog 9 #[.agg #[.int .u64 (a:Int),.int .u64 (b:Int)]] w fun e w'=>e=.returned (.agg #[.int .u64 ((plainF (fnegF b):Nat):Int),.int .u64 ((plainF (fnegF a):Nat):Int)])∧Ext w w':=by
  have C1:=Lib.hid (ivalid_at a b ha hb rfl rfl true h1)
  have C3:=Lib.hid (negF_any b hb)
  have C4:=Lib.hid (negF_any a ha)
  have C5:=Lib.hid (between_any (fnegF b) (fnegF a))
  obtain ⟨x,hx⟩:∃ x:Int,((plainF (fnegF b):Nat):Int)=x:=⟨_,rfl⟩
  obtain ⟨y,hy⟩:∃ y:Int,((plainF (fnegF a):Nat):Int)=y:=⟨_,rfl⟩
  rw [hx,hy] at C5 ⊢
  clear hx hy h1 ha hb
  generalize fnegF a=R1 at *
  generalize fnegF b=R2 at *
  go_enter Tryz.func9,Tryz.ntmps9
  go_wp2_with fail
  obtain ⟨W,hW,hB,hx,hbx,hsz⟩:=ibox_two w a b 0 0
  rw [←hW]
  clear hW
  generalize hBe:w.heap.size=B at *
  have HBe:=Lib.hid hBe
  have HB:Hid (Below B w W):=Lib.hid (by rw [←hBe];exact hB)
  clear hBe hB
  have hBs:B+2≤W.heap.size:=hsz
  clear hsz
  have c0:=hx.c0
  have c1:=hx.c1
  go_wp2_with fail
  refine (C1.out _).mono ?_
  rintro r w1 ⟨rfl,hE⟩
  have hx:=hx.below hE
  have hbx:=hbx.below hE
  have HB:=Lib.hid (HB.out.trans (Below.mono hE (by omega)))
  have hBs:B+2≤w1.heap.size:=by have:=Below.size hE;omega
  clear c0 c1 hE
  have c0:=hx.c0
  have c1:=hx.c1
  have HC:=Lib.hid (show ∀ wx,Ext w1 wx→(wx.cell? ⟨B,0,none⟩=some (.int .u64 (a:Int))∧wx.cell? ⟨B,1,none⟩=some (.int .u64 (b:Int))) from fun wx h=>⟨(hx.below h).c0,(hx.below h).c1⟩)
  have st:Ext w1 w1.drew:=(Below.refl _ _).drew
  go_upto_region 3 with fail
  go_region_held3 (fun wx=>wx.cell? ⟨B,0,none⟩=some (.int .u64 (a:Int))∧wx.cell? ⟨B,1,none⟩=some (.int .u64 (b:Int)))
    (first | exact HC.out _ (by assumption) | exact HC.out _ (Ext.refl _) | (refine ⟨?_,?_⟩ <;> go_simp))
    (first
      | (go_at_call 43;(with_reducible refine (C3.out _).mono ?_);rintro r w3 ⟨rfl,rfl⟩)
      | (go_at_call 43;(with_reducible refine (C4.out _).mono ?_);rintro r w4 ⟨rfl,rfl⟩)
      | (go_at_call 39;refine (C5.out _).mono ?_;rintro r w5 ⟨rfl,hE3⟩;have ex3:Ext w1 w5:=Ext.trans st hE3;have b3:=hbx.below ex3;have q0:=b3.c0;have q1:=b3.c1;have q2:=b3.f 0;have q3:=b3.f 1))
  all_goals
    have hst:=b3.stored x y
    have z0:=hst.c0
    have z1:=hst.c1
    have HF:=Lib.hid ((HB.out.trans (Below.mono ex3 (by omega))).trans ((only_iset2 w5 (B+1) (.int .u64 x) (.int .u64 y)).below (by omega)))
    clear hst q0 q1 q2 q3
    go_wp2
    refine bodyPost_ret (v:=.agg #[.int .u64 x,.int .u64 y]) (by simp [results,Tryz.results9,go_sem,z0,z1]) rfl ⟨rfl,?_⟩
    show Below _ _ _
    rw [HBe.out]
    exact HF.out
set_option maxRecDepth 100000 in
set_option maxHeartbeats 4000000 in
theorem isub_yes (a b c d:Nat) (ha:a<18446744073709551616) (hb:b<18446744073709551616) (hc:c<18446744073709551616) (hd:d<18446744073709551616) (h1:validF a b=true) (h2:validF c d=true) (w:World) :
    Calls Tryz.prog 13 #[.agg #[.int .u64 (a:Int),.int .u64 (b:Int)],.agg #[.int .u64 (c:Int),.int .u64 (d:Int)]] w fun e w'=>e=.returned (.agg #[.int .u64 ((plainF (faddF a (plainF (fnegF d)) 1):Nat):Int),.int .u64 ((plainF (faddF b (plainF (fnegF c)) 2):Nat):Int)])∧Ext w w':=by
  have h3:=valid_plain fnegF_lt fnegF_lt (valid_neg hc hd h2)
  have l1:=plainF_lt (fnegF_lt (f:=d))
  have l2:=plainF_lt (fnegF_lt (f:=c))
  have CN:=Lib.hid (ineg_yes c d hc hd h2)
  have CA:=Lib.hid (iadd_yes a b (plainF (fnegF d)) (plainF (fnegF c)) ha hb l1 l2 h1 h3)
  obtain ⟨x,hx⟩:∃ x:Int,((plainF (faddF a (plainF (fnegF d)) 1):Nat):Int)=x:=⟨_,rfl⟩
  obtain ⟨y,hy⟩:∃ y:Int,((plainF (faddF b (plainF (fnegF c)) 2):Nat):Int)=y:=⟨_,rfl⟩
  rw [hx,hy] at CA ⊢
  clear hx hy h1 h2 h3 l1 l2 ha hb hc hd
  generalize plainF (fnegF d)=R1 at *
  generalize plainF (fnegF c)=R2 at *
  go_enter Tryz.func13,Tryz.ntmps13
  go_upto_region 1 with fail
  obtain ⟨W,hW,hB,hx,hy,hbx,hsz⟩:=ibox_three w a b c d 0 0
  rw [←hW]
  clear hW
  generalize hBe:w.heap.size=B at *
  have HBe:=Lib.hid hBe
  have HB:Hid (Below B w W):=Lib.hid (by rw [←hBe];exact hB)
  clear hBe hB
  have hBs:B+3≤W.heap.size:=hsz
  clear hsz
  have c0:=hx.c0
  have c1:=hx.c1
  have c2:=hy.c0
  have c3:=hy.c1
  have HC:=Lib.hid (show ∀ wx,Ext W wx→(wx.cell? ⟨B,0,none⟩=some (.int .u64 (a:Int))∧wx.cell? ⟨B,1,none⟩=some (.int .u64 (b:Int))∧wx.cell? ⟨B+1,0,none⟩=some (.int .u64 (c:Int))∧wx.cell? ⟨B+1,1,none⟩=some (.int .u64 (d:Int))) from fun wx h=>⟨(hx.below h).c0,(hx.below h).c1,(hy.below h).c0,(hy.below h).c1⟩)
  have st:Ext W W.drew:=(Below.refl _ _).drew
  go_region_held3 (fun wx=>wx.cell? ⟨B,0,none⟩=some (.int .u64 (a:Int))∧wx.cell? ⟨B,1,none⟩=some (.int .u64 (b:Int))∧wx.cell? ⟨B+1,0,none⟩=some (.int .u64 (c:Int))∧wx.cell? ⟨B+1,1,none⟩=some (.int .u64 (d:Int)))
    (first | exact HC.out _ (by assumption) | exact HC.out _ (Ext.refl _) | (refine ⟨?_,?_,?_,?_⟩ <;> go_simp))
    (first
      | (go_at_call 9;refine (CN.out _).mono ?_;rintro r w3 ⟨rfl,hE1⟩;have ex1:Ext W w3:=Ext.trans st hE1)
      | (go_at_call 11;refine (CA.out _).mono ?_;rintro r w5 ⟨rfl,hE3⟩;have ex3:Ext W w5:=Ext.trans ex1 hE3;have b3:=hbx.below ex3;have q0:=b3.c0;have q1:=b3.c1;have q2:=b3.f 0;have q3:=b3.f 1))
  all_goals
    have hst:=b3.stored x y
    have z0:=hst.c0
    have z1:=hst.c1
    have HF:=Lib.hid ((HB.out.trans (Below.mono ex3 (by omega))).trans ((only_iset2 w5 (B+1+1) (.int .u64 x) (.int .u64 y)).below (by omega)))
    clear hst q0 q1 q2 q3
    go_wp2
    refine bodyPost_ret (v:=.agg #[.int .u64 x,.int .u64 y]) (by simp [results,Tryz.results13,go_sem,z0,z1]) rfl ⟨rfl,?_⟩
    show Below _ _ _
    rw [HBe.out]
    exact HF.out
structure Good (p q:Nat):Prop where
  l1:p<18446744073709551616
  l2:q<18446744073709551616
  n1:nanB p=false
  n2:nanB q=false
  le:frank p≤frank q
  lo:frank p<9218868437227405312
  hi : -9218868437227405312<frank q
theorem Good.of {a b:Nat} (ha:a<18446744073709551616) (hb:b<18446744073709551616) (h:validF a b=true):Good a b:=by
  obtain ⟨v1,v2,v3,v4,v5⟩:=(valid_iff ha hb).1 h
  exact ⟨ha,hb,v1,v2,v3,v4,v5⟩
theorem Good.valid {a b:Nat} (h:Good a b):validF a b=true:=(valid_iff h.l1 h.l2).2 ⟨h.n1,h.n2,h.le,h.lo,h.hi⟩
theorem Good.plain {a b:Nat} (h:Good a b):Good (plainF a) (plainF b):=by
  obtain ⟨p1,p2⟩:=plain_facts a
  obtain ⟨q1,q2⟩:=plain_facts b
  exact ⟨plainF_lt h.l1,plainF_lt h.l2,by rw [p1];exact h.n1,by rw [q1];exact h.n2,by rw [p2,q2];exact h.le,by rw [p2];exact h.lo,by rw [q2];exact h.hi⟩
theorem Good.point {a b:Nat} (h:Good a b):∃ t,Nm t∧finB t=true∧frank a≤frank t∧frank t≤frank b:=valid_point2 h.l1 h.l2 h.valid
theorem add_fin_rank {a b:Nat} (mode:Int) (fa:finB a=true) (fb:finB b=true) (lb:b<18446744073709551616):nanB (faddF a b mode)=false∧frank (faddF a b mode)=frank (rz (fzs a+fzs b) (-1074) mode):=by
  refine ⟨(add_num mode fa fb lb).1,?_⟩
  obtain ⟨h1,h2⟩:=add_fin mode fa fb lb
  by_cases h:fzs a+fzs b=0
  · rw [frank_zero (h1 h),h]
    exact (frank_zero (by unfold rz;rw [if_pos rfl];decide)).symm
  · rw [h2 h];unfold rz;rw [if_neg h]
theorem add_infL {a b:Nat} (mode:Int) (lb:b<18446744073709551616) (ia:infB a=true) (hb:nanB b=false) (h:infB b=true→fneg b=fneg a):faddF a b mode=9218868437227405312+sgz (fneg a):=by
  unfold faddF
  rw [add_form,(inf_not ia).1,hb,ia]
  simp only [Bool.or_false,Bool.true_and,Bool.false_eq_true,if_false,if_true]
  cases ib:infB b with
  | true =>
    have:=inf_val lb ib
    rw [h ib] at this
    rw [this];simp
  | false=>simp
theorem add_infR {a b:Nat} (mode:Int) (la:a<18446744073709551616) (lb:b<18446744073709551616) (ib:infB b=true) (ha:nanB a=false) (h:infB a=true→fneg a=fneg b):faddF a b mode=9218868437227405312+sgz (fneg b):=by
  rw [faddF_comm la lb]
  exact add_infL mode la ib ha h
theorem neg_good {a b:Nat} (h:Good a b):Good (plainF (fnegF b)) (plainF (fnegF a))∧frank (plainF (fnegF b)) = -frank b∧frank (plainF (fnegF a)) = -frank a:=by
  have v:=valid_plain fnegF_lt fnegF_lt (valid_neg h.l1 h.l2 h.valid)
  obtain ⟨p1,p2,-⟩:=neg_rank h.l1 h.n1
  obtain ⟨q1,q2,-⟩:=neg_rank h.l2 h.n2
  exact ⟨Good.of (plainF_lt fnegF_lt) (plainF_lt fnegF_lt) v,by rw [(plain_facts _).2,q2],by rw [(plain_facts _).2,p2]⟩
def cornLo (f:Nat→Nat→Int→Nat) (a b c d:Nat):Nat:=leastF ([f a c 1,f a d 1,f b c 1,f b d 1].map nz)
def cornHi (f:Nat→Nat→Int→Nat) (a b c d:Nat):Nat:=greatF ([f a c 2,f a d 2,f b c 2,f b d 2].map nz)
theorem corn_good {f:Nat→Nat→Int→Nat} {L R:Nat→Prop} (h:Mono f L R) (hf:∀ a b mode,f a b mode<18446744073709551616) {a b c d t u:Nat} (ha:L a) (hb:L b) (hc:R c) (hd:R d) (ht:L t) (hu:R u) (ft:finB t=true) (fu:finB u=true) (h1:frank a≤frank t) (h2:frank t≤frank b) (h3:frank c≤frank u) (h4:frank u≤frank d) :
    Good (cornLo f a b c d) (cornHi f a b c d)∧frank (cornLo f a b c d)=lo4 f a b c d∧frank (cornHi f a b c d)=hi4 f a b c d:=by
  obtain ⟨p1,p2⟩:=least4_rank (f a c 1) (f a d 1) (f b c 1) (f b d 1)
  obtain ⟨q1,q2⟩:=great4_rank (f a c 2) (f a d 2) (f b c 2) (f b d 2)
  obtain ⟨g1,g2,g3⟩:=h.good ha hb hc hd ht hu ft fu h1 h2 h3 h4
  have e1:frank (cornLo f a b c d)=lo4 f a b c d:=p2
  have e2:frank (cornHi f a b c d)=hi4 f a b c d:=q2
  refine ⟨⟨leastF_lt (nz_lt rfl ?_),greatF_lt (nz_lt rfl ?_),p1,q1,by rw [e1,e2];exact g2,by rw [e1];exact g1,by rw [e2];exact g3⟩,e1,e2⟩
  all_goals
    intro x hx
    simp only [List.mem_cons,List.not_mem_nil,or_false] at hx
    rcases hx with rfl | rfl | rfl | rfl <;> exact hf _ _ _
theorem Good.nm {a b:Nat} (h:Good a b):Nm a∧Nm b:=⟨⟨h.l1,h.n1⟩,⟨h.l2,h.n2⟩⟩
theorem mul_good {a b e f:Nat} (hx:Good a b) (hz:Good e f):Good (cornLo fmulF a b e f) (cornHi fmulF a b e f)∧frank (cornLo fmulF a b e f)=lo4 fmulF a b e f∧frank (cornHi fmulF a b e f)=hi4 fmulF a b e f:=by
  obtain ⟨t,nt,ft,t1,t2⟩:=hx.point
  obtain ⟨u,nu,fu,u1,u2⟩:=hz.point
  exact corn_good mul_monoF fmul_lt2 hx.nm.1 hx.nm.2 hz.nm.1 hz.nm.2 nt nu ft fu t1 t2 u1 u2
theorem no_zero {c d:Nat} (h:Good c d) (h0:containsF c d=false):0<frank c∨frank d<0:=by
  have hz:frank 0=0:=frank_zero (by decide)
  unfold containsF lessF at h0
  rw [h.n1,h.n2,show nanB 0=false by decide,hz] at h0
  simp at h0
  omega
theorem has_zero {c d:Nat} (h:Good c d) (h1:frank c≤0) (h2:0≤frank d):containsF c d=true:=by
  have hz:frank 0=0:=frank_zero (by decide)
  unfold containsF lessF
  rw [h.n1,h.n2,show nanB 0=false by decide,hz]
  simp
  omega
theorem div_good {e f c d:Nat} (hz:Good e f) (hy:Good c d) (h0:containsF c d=false):Good (cornLo fdivF e f c d) (cornHi fdivF e f c d)∧frank (cornLo fdivF e f c d)=lo4 fdivF e f c d∧frank (cornHi fdivF e f c d)=hi4 fdivF e f c d:=by
  obtain ⟨t,nt,ft,t1,t2⟩:=hz.point
  obtain ⟨u,nu,fu,u1,u2⟩:=hy.point
  have hle:=hy.le
  rcases no_zero hy h0 with h | h
  · exact corn_good div_monoP (fun _ _ _=>fdiv_lt _) hz.nm.1 hz.nm.2 ⟨hy.l1,hy.n1,h⟩ ⟨hy.l2,hy.n2,by omega⟩ nt ⟨nu.1,nu.2,by omega⟩ ft fu t1 t2 u1 u2
  · exact corn_good div_monoN (fun _ _ _=>fdiv_lt _) hz.nm.1 hz.nm.2 ⟨hy.l1,hy.n1,by omega⟩ ⟨hy.l2,hy.n2,h⟩ nt ⟨nu.1,nu.2,by omega⟩ ft fu t1 t2 u1 u2
theorem sub_zero {a b c d:Nat} (hx:Good a b) (hy:Good c d) (h1:frank c≤frank a) (h2:frank b≤frank d) (h0:containsF c d=false):containsF a b=false:=by
  have hle:=hx.le
  cases h:containsF a b with
  | false=>rfl
  | true =>
    exfalso
    have hz:frank 0=0:=frank_zero (by decide)
    unfold containsF lessF at h
    rw [hx.n1,hx.n2,show nanB 0=false by decide,hz] at h
    simp at h
    rw [has_zero hy (by omega) (by omega)] at h0
    cases h0
theorem abs_rank {a:Nat} (h:nanB a=false):nanB (fabsF a)=false∧frank (fabsF a)=if frank a<0 then -frank a else frank a:=by
  have h1:=nanB_not h
  have h2:fabsF a=fmag a:=by unfold fabsF;rw [h];rfl
  have h3:fmag (fmag a)=fmag a:=Nat.mod_eq_of_lt (fmag_lt a)
  have h4:fneg (fmag a)=false:=by unfold fneg;have:=fmag_lt a;exact decide_eq_false (by omega)
  rw [h2]
  refine ⟨by unfold nanB;rw [h3];exact decide_eq_false (by omega),?_⟩
  unfold frank
  rw [h3,h4]
  simp only [Bool.false_eq_true,if_false]
  cases fneg a
  · simp;omega
  · simp;omega
theorem size_facts {a b:Nat} (h:Good a b):nanB (migF a b)=false∧nanB (magF a b)=false ∧
    frank (magF a b)=max (if frank a<0 then -frank a else frank a) (if frank b<0 then -frank b else frank b) ∧
    frank (migF a b)=if frank a≤0∧0≤frank b then 0 else min (if frank a<0 then -frank a else frank a) (if frank b<0 then -frank b else frank b):=by
  obtain ⟨a1,a2⟩:=abs_rank h.n1
  obtain ⟨b1,b2⟩:=abs_rank h.n2
  obtain ⟨g1,g2⟩:=great_two a1 b1
  obtain ⟨l1,l2⟩:=least_two a1 b1
  have hz:frank 0=0:=frank_zero (by decide)
  have hle:=h.le
  refine ⟨?_,g1,by unfold magF;rw [g2,a2,b2],?_⟩
  · unfold migF
    split
    · decide
    · exact l1
  · unfold migF
    cases hc:containsF a b with
    | true =>
      have:frank a≤0∧0≤frank b:=by
        unfold containsF lessF at hc
        rw [h.n1,h.n2,show nanB 0=false by decide,hz] at hc
        simp at hc
        omega
      rw [if_pos rfl,if_pos this,hz]
    | false =>
      have:=no_zero h hc
      rw [if_neg (by decide),if_neg (by omega),l2,a2,b2]
theorem sqr_num {q:Nat} (mode:Int) (hn:nanB q=false):nanB (fmulF q q mode)=false:=by
  rcases fin_or hn with hf | hi
  · exact (mul_fin_rank mode hf hf).1
  · obtain ⟨n1,n2⟩:=inf_not hi
    rw [mul_form,n1,n2,hi]
    simp
    decide
theorem fin_of_rank {p:Nat} (hn:nanB p=false) (h1 : -9218868437227405312<frank p) (h2:frank p<9218868437227405312):finB p=true:=by
  rcases fin_or hn with hf | hi
  · exact hf
  · rcases inf_ends hi with ⟨_,h⟩ | ⟨_,h⟩ <;> omega
theorem sqr_mono {p q:Nat} (mode:Int) (np:nanB p=false) (nq:nanB q=false) (h0:0≤frank p) (h:frank p≤frank q):frank (fmulF p p mode)≤frank (fmulF q q mode):=by
  have s1:=mul_mono_pos mode np nq np h0 h
  have s2:=mul_mono_pos mode np nq nq (by omega) h
  rw [fmulF_comm p q] at s2
  rw [rk_num (sqr_num mode np)] at s1
  rw [rk_num (sqr_num mode nq)] at s2
  omega
theorem sqr_good {a b:Nat} (h:Good a b):Good (fmulF (migF a b) (migF a b) 1) (fmulF (magF a b) (magF a b) 2):=by
  obtain ⟨n1,n2,r2,r1⟩:=size_facts h
  have hle:=h.le
  have hlo:=h.lo
  have hhi:=h.hi
  have p0:0≤frank (migF a b):=by rw [r1];split <;> (try split) <;> (try split) <;> omega
  have p1:frank (migF a b)<9218868437227405312:=by rw [r1];split <;> (try split) <;> (try split) <;> omega
  have p2:frank (migF a b)≤frank (magF a b):=by rw [r1,r2];split <;> (try split) <;> (try split) <;> omega
  have fp:=fin_of_rank n1 (by omega) p1
  obtain ⟨a1,a2⟩:=mul_fin_rank 1 fp fp
  obtain ⟨b1,b2⟩:=mul_fin_rank 2 fp fp
  obtain ⟨d1,d2,d3⟩:=rz_dirs (fzs (migF a b)*fzs (migF a b)) (-2148)
  have s:=sqr_mono 2 n1 n2 p0 p2
  rw [←a2,←b2] at d2
  rw [←a2] at d1
  rw [←b2] at d3
  exact ⟨fmul_lt2 _ _ _,fmul_lt2 _ _ _,a1,sqr_num 2 n2,by omega,d1,by omega⟩
open Go.RowKit
def DcmpIs (d d':Dy) (c:Int) (ok:Bool):Prop:=(d=none∨d'=none)∧c=0∧ok=false∨d≠none∧d'≠none∧c=sgn3 (sc d) (sc d')∧ok=true
open Go.RowKit
theorem fdy_mul {f g:Nat} (hf:finB f=true) (hg:finB g=true):Is (dmul (fdy f) (fdy g)) (1074+1074) (fzs f*fzs g):=by
  have b1:=fz_bound hf
  have b2:=fz_bound hg
  rw [←fzs_abs] at b1 b2
  exact (fdy_is hf).mul (fdy_is hg) (by omega) (abs_mul_lt b1 b2) (by rw [low46_le];omega)
theorem fdy_up {f:Nat} (hf:finB f=true):Is (fdy f) (1074+1074) (fzs f*2^low74):=(fdy_is hf).up 1074
theorem pos_fzs {f:Nat} (h:fneg f=false):fzs f=(fz f:Int):=by unfold fzs;rw [h];rfl
theorem quo_big {A C:Nat} (hA:A≠0) (hC:C≠0):2^61≤A*2^(60+2+blen C - blen A) / C:=by
  have h1:=blen_lt C
  have h2:2^(blen A - 1)≤A:=by
    have:=Nat.log2_self_le hA
    have e:blen A - 1=Nat.log2 A:=by unfold blen;rw [if_neg hA];omega
    rw [e];exact this
  have hb:1≤blen A:=by unfold blen;rw [if_neg hA];omega
  rw [Nat.le_div_iff_mul_le (Nat.pos_of_ne_zero hC)]
  refine Nat.le_trans (Nat.mul_le_mul_left _ (Nat.le_of_lt h1)) ?_
  refine Nat.le_trans ?_ (Nat.mul_le_mul_right _ h2)
  rw [←Nat.pow_add,←Nat.pow_add]
  exact Nat.pow_le_pow_right (by omega) (by omega)
theorem root_big {A k:Nat} (hA:A≠0) (hk:2*((60:Nat):Int)+4 - (blen A:Int)≤(k:Nat)):2^61≤isq (A*2^k):=by
  rw [isq_le,←Nat.pow_add]
  have h2:2^(blen A - 1)≤A:=by
    have:=Nat.log2_self_le hA
    have e:blen A - 1=Nat.log2 A:=by unfold blen;rw [if_neg hA];omega
    rw [e];exact this
  have hb:1≤blen A:=by unfold blen;rw [if_neg hA];omega
  refine Nat.le_trans ?_ (Nat.mul_le_mul_right _ h2)
  rw [←Nat.pow_add]
  exact Nat.pow_le_pow_right (by omega) (by omega)
theorem big_place {Q:Nat} {e:Int} (h:2^61≤Q):e<fplace Q e:=by
  have h0:Q≠0:=by have:0<2^61:=Nat.pow_pos (by omega);omega
  have h1:61≤Nat.log2 Q:=(Nat.le_log2 h0).2 h
  unfold fplace
  omega
theorem big_53 {Q:Nat} (h:2^61≤Q):2^53≤Q:=Nat.le_trans (Nat.pow_le_pow_right (by omega) (by omega)) h
theorem big_ne {Q:Nat} (h:2^61≤Q):Q≠0:=by have:0<2^61:=Nat.pow_pos (by omega);omega
theorem fla_root_any {neg:Bool} {mode:Int} {A k k':Nat} {e:Int} (hev:(e - (k:Int)) % 2=0) (hev':(e - (k':Int)) % 2=0) (h:2^53≤isq (A*2^k)) (h':2^53≤isq (A*2^k')) :
    fla neg (isq (A*2^k)) ((e - (k:Int)) / 2) (decide (isq (A*2^k)*isq (A*2^k)≠A*2^k)) mode=fla neg (isq (A*2^k')) ((e - (k':Int)) / 2) (decide (isq (A*2^k')*isq (A*2^k')≠A*2^k')) mode:=by
  have h3:=root_long (neg:=neg) (mode:=mode) (N:=A) (A:=A) (i:=0) (s:=k) (k:=k') (E:=(e - (k:Int)) / 2) (e:=e) (by omega) (by omega) (by omega) h h'
  rw [h3]
  congr 1
  omega
def quoV (d d':Dy) (mode:Int):Nat :=
  match d,d' with
  | some (m,e),some (m',e') =>
    if m'=0 then 9221120237041090560
    else if m=0 then 0
    else flr (decide (m<0) != decide (m'<0)) (m.natAbs*2^(60+2+blen m'.natAbs - blen m.natAbs) / m'.natAbs) (e - e' + -((60+2+blen m'.natAbs - blen m.natAbs:Nat):Int)) (decide (m.natAbs*2^(60+2+blen m'.natAbs - blen m.natAbs) % m'.natAbs≠0)) mode
  | _,_=>9221120237041090560
def rootK (A:Nat) (e:Int):Nat:=126 - blen A+((e - ((126 - blen A:Nat):Int)) % 2).toNat
theorem rootK_ok {A:Nat} {e:Int}:2*((60:Nat):Int)+4 - (blen A:Int)≤(rootK A e:Nat)∧(e - (rootK A e:Int)) % 2=0:=by
  unfold rootK;omega
noncomputable def rootV (d:Dy) (mode:Int):Nat :=
  match d with
  | some (m,e) =>
    if m<0 then 9221120237041090560
    else if m=0 then 0
    else fla false (isq (m.natAbs*2^rootK m.natAbs e)) ((e - (rootK m.natAbs e:Int)) / 2) (decide (isq (m.natAbs*2^rootK m.natAbs e)*isq (m.natAbs*2^rootK m.natAbs e)≠m.natAbs*2^rootK m.natAbs e)) mode
  | none=>9221120237041090560
theorem rootV_any {A k:Nat} {e mode:Int} (hA:A≠0) (hk:2*((60:Nat):Int)+4 - (blen A:Int)≤(k:Nat)) (hev:(e - (k:Int)) % 2=0) :
    flr false (isq (A*2^k)) ((e - (k:Int)) / 2) (decide (isq (A*2^k)*isq (A*2^k)≠A*2^k)) mode=rootV (some ((A:Int),e)) mode:=by
  unfold rootV
  dsimp only
  rw [if_neg (by omega),if_neg (by omega),Int.natAbs_natCast]
  unfold flr
  rw [if_neg (by decide),Nat.zero_add]
  obtain ⟨h1,h2⟩:=rootK_ok (A:=A) (e:=e)
  exact fla_root_any hev h2 (big_53 (root_big hA hk)) (big_53 (root_big hA h1))
end Go.Proofs.YtkomhemjodbkpaaGreatDoor
