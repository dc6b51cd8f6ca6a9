import Derived.Test.YtkomhemjodbkpaaGreatDoorIExLawU3
import Derived.Test.YtkomhemjodbkpaaGreatDoorIExLawU7
import Derived.Test.YtkomhemjodbkpaaGreatDoorIExLawU4
import Derived.Test.YtkomhemjodbkpaaGreatDoorIExLawU0
import Derived.WalkKit
import Derived.WalkSmall
import Derived.Lib.Hide
namespace Go.Proofs.YtkomhemjodbkpaaGreatDoor
open Go.RowKit
section
variable {W w:World} {L:List Ent} {u v:Value} {x y:Int} {N M:Nat} {c d:Bool}
end
theorem St.alloc {W w:World} {L:List Ent} (h:St W w L) (o:Obj):St W (w.alloc o) L:=h.step ((Below.refl _ w).alloc (Nat.le_refl _) o)
theorem Ent.Ok.only_box {w w':World} {p:Ent} {g:Nat} {nb:Bool} {ao:Option Addr} {n ca:Nat} (h:p.Ok w) (hb:Box w g nb ao n ca) (ho:Only g w w'):p.Ok w':=by
  obtain ⟨nb,ao,n,ca,h1,⟨⟨zs,h2,h2'⟩,h2''⟩,h3,h4,h5⟩:=h
  exact ⟨nb,ao,n,ca,h1,⟨⟨zs,h2.only_box hb ho,h2'⟩,h2''⟩,h3,h4,fun e=>⟨(h5 e).neg,(h5 e).sl.only_box hb ho⟩⟩
theorem St.stored {W w:World} {L:List Ent} {g:Nat} {nb:Bool} {ao:Option Addr} {n ca:Nat} (h:St W w L) (hb:Box w g nb ao n ca) (hg:W.heap.size≤g) (mb:Bool) (bo:Option Addr) (m cb:Nat) :
    St W ((w.setCell ⟨g,0,none⟩ (.bool mb)).setCell ⟨g,1,none⟩ (.slice bo m cb)) L :=
  ⟨Below.trans h.ext ((only_set2 w g _ _).below hg),fun p hp=>(h.bag p hp).only_box hb (only_set2 w g _ _)⟩
open Go.RowKit
def blen (a:Nat):Nat:=if a=0 then 0 else Nat.log2 a+1
theorem blen_of {a k:Nat} (h0:2^k≤a) (h1:a<2^(k+1)):blen a=k+1:=by
  have ha:a≠0:=by have:=Nat.pos_of_ne_zero (show 2^k≠0 by simp);omega
  unfold blen
  rw [if_neg ha,(Nat.log2_eq_iff ha).2 ⟨h0,h1⟩]
theorem blen_mul {a:Nat} (h:a≠0) (k:Nat):blen (a*2^k)=blen a+k:=by
  have h1:=Nat.log2_self_le h
  have h2:=@Nat.lt_log2_self a
  have e:blen a=Nat.log2 a+1:=by unfold blen;rw [if_neg h]
  have hp:0<2^k:=Nat.pos_of_ne_zero (by simp)
  rw [e,blen_of (k:=Nat.log2 a+k)]
  · omega
  · rw [Nat.pow_add];exact Nat.mul_le_mul_right _ h1
  · rw [show Nat.log2 a+k+1=Nat.log2 a+1+k by omega,Nat.pow_add];exact Nat.mul_lt_mul_of_pos_right h2 hp
theorem blen_top {a m:Nat} (hm:(limbs a).length=m+1):((m:Int)*32+(Lib.bitLen ((limbs a).getD m 0).toNat:Int))=(blen a:Int):=by
  have h1:a<4294967296^(m+1):=(limbs_len_le a (m+1)).1 (by omega)
  have h2:4294967296^m≤a:=by
    rcases Nat.lt_or_ge a (4294967296^m) with h | h
    · have:=(limbs_len_le a m).2 h;omega
    · exact h
  have hpm:0<4294967296^m:=Nat.pos_of_ne_zero (by simp)
  have hd1:a / 4294967296^m<4294967296:=by
    rw [Nat.div_lt_iff_lt_mul hpm,Nat.mul_comm,←Nat.pow_succ];exact h1
  have hd0:0<a / 4294967296^m:=Nat.div_pos h2 hpm
  have ht:(limbs a).getD m 0=((a / 4294967296^m:Nat):Int):=by
    rw [limbs_at,Nat.mod_eq_of_lt hd1]
  rw [ht,Int.toNat_natCast]
  have hdm:=Nat.div_add_mod a (4294967296^m)
  have hml:=Nat.mod_lt a hpm
  generalize htt:a / 4294967296^m=t at *
  generalize a % 4294967296^m=r at *
  obtain ⟨l,e,l0,l1⟩:=bitLen_spec t (by omega) (by omega)
  have hp:(4294967296:Nat)^m=2^(m*32):=by rw [Nat.mul_comm,Nat.pow_mul]
  rw [e,blen_of (k:=m*32+l)]
  · omega
  · rw [Nat.pow_add,←hp]
    have:=Nat.mul_le_mul_left (4294967296^m) l0
    omega
  · rw [Nat.add_assoc,Nat.pow_add,←hp]
    have:=Nat.mul_le_mul_left (4294967296^m) (show t+1≤2^(l+1) from l1)
    rw [Nat.mul_add,Nat.mul_one] at this
    omega
theorem bitLen_32 {x:Nat} (h:x<4294967296):Lib.bitLen x≤32:=by
  by_cases h0:x=0
  · rw [h0,bitLen_zero];omega
  · obtain ⟨l,e,l0,_⟩:=bitLen_spec x h0 (by omega)
    rcases Nat.lt_or_ge l 32 with hl | hl
    · omega
    · have:=Nat.pow_le_pow_right (show 0<2 by omega) hl
      omega
open Go.RowKit
theorem nanB_not {f:Nat} (h:nanB f=false):fmag f≤9218868437227405312:=by
  have:=of_decide_eq_false h
  omega
theorem neg_rank {f:Nat} (hf:f<18446744073709551616) (hn:nanB f=false):nanB (fnegF f)=false∧frank (fnegF f) = - frank f∧(fnegF f=9218868437227405312→frank f = -9218868437227405312):=by
  have hp:=f_parts hf
  have hm:=nanB_not hn
  have hl:=fmag_lt f
  unfold fnegF
  rw [if_neg (by rw [hn];simp)]
  cases hs:fneg f
  · rw [hs] at hp
    have e1:fneg (sgz (!false)+fmag f)=true:=by unfold fneg sgz;simp
    have e2:fmag (sgz (!false)+fmag f)=fmag f:=by unfold fmag sgz;simp <;> omega
    refine ⟨decide_eq_false (by rw [e2];omega),?_,?_⟩
    · unfold frank;rw [e1,e2,hs];simp
    · unfold sgz;simp <;> omega
  · rw [hs] at hp
    have e1:fneg (sgz (!true)+fmag f)=false:=by unfold fneg sgz;simp <;> omega
    have e2:fmag (sgz (!true)+fmag f)=fmag f:=by unfold fmag sgz;simp <;> omega
    refine ⟨decide_eq_false (by rw [e2];omega),?_,?_⟩
    · unfold frank;rw [e1,e2,hs];simp
    · intro h
      unfold frank
      rw [hs,if_pos rfl]
      unfold sgz at h
      simp at h
      omega
def FcmpOut (a b:Nat) (s:Int) (ok:Bool):Prop:=if nanB a||nanB b then s=0∧ok=false else s=sgn3 (frank a) (frank b)∧ok=true
theorem fcmp_nan {a b:Nat} (h:nanB a=true∨nanB b=true):FcmpOut a b 0 false:=by
  unfold FcmpOut
  rw [if_pos (by rcases h with h | h <;> simp [h])]
  exact ⟨rfl,rfl⟩
theorem fcmp_num {a b:Nat} {s:Int} (ha:nanB a=false) (hb:nanB b=false) (hs:sgn3 (frank a) (frank b)=s):FcmpOut a b s true:=by
  unfold FcmpOut
  rw [if_neg (by simp [ha,hb])]
  exact ⟨hs.symm,rfl⟩
set_option maxRecDepth 100000 in
set_option maxHeartbeats 400000 in
theorem compare64_any (x y:Int) (w:World):Calls Tryz.prog 83 #[.int .i64 x,.int .i64 y] w fun e w'=>e=.returned (.int .i64 (sgn3 x y))∧w=w':=by
  have hx:(x != x)=false:=by simp
  have hy:(y != y)=false:=by simp
  by_cases h1:x<y
  · have e:sgn3 x y = -1:=by simp [sgn3,h1]
    have E:=Lib.hid e;clear e
    go_enter Tryz.func83,Tryz.ntmps83
    go_wp2_with go_in
    go_ret
    exact ⟨by rw [E.out];rfl,rfl⟩
  · by_cases h2:y<x
    · have e:sgn3 x y=1:=by simp [sgn3,h1,h2]
      have E:=Lib.hid e;clear e
      go_enter Tryz.func83,Tryz.ntmps83
      go_wp2_with go_in
      go_ret
      exact ⟨by rw [E.out];rfl,rfl⟩
    · have e:sgn3 x y=0:=by simp [sgn3,h1,h2]
      have E:=Lib.hid e;clear e
      go_enter Tryz.func83,Tryz.ntmps83
      go_wp2_with go_in
      go_ret
      exact ⟨by rw [E.out];rfl,rfl⟩
set_option maxRecDepth 100000 in
set_option maxHeartbeats 1000000 in
theorem fcmp_any (a b:Nat) (ha:a<18446744073709551616) (hb:b<18446744073709551616) (s:Int) (ok:Bool) (h:FcmpOut a b s ok) (w:World) :
    Calls Tryz.prog 35 #[.int .u64 (a:Int),.int .u64 (b:Int)] w fun e w'=>e=.returned (.tuple #[.int .i64 s,.bool ok])∧Ext w w':=by
  unfold FcmpOut at h
  obtain ⟨na,hna⟩:∃ na,nanB a=na:=⟨_,rfl⟩
  obtain ⟨nb,hnb⟩:∃ nb,nanB b=nb:=⟨_,rfl⟩
  rw [hna,hnb] at h
  have HA:=Lib.hid hna;clear hna
  have HB:=Lib.hid hnb;clear hnb
  cases na with
  | true =>
    simp only [Bool.true_or,if_true] at h
    obtain ⟨rfl,rfl⟩:=h
    go_enter Tryz.func35,Tryz.ntmps35
    go_wp2_with (go_at_call 82;refine (isNaN_any a ha _).mono ?_;rw [HA.out];rintro e w' ⟨rfl,rfl⟩)
    go_ret2
    exact ⟨rfl,Below.refl _ _⟩
  | false =>
    cases nb with
    | true =>
      simp only [Bool.false_or,if_true] at h
      obtain ⟨rfl,rfl⟩:=h
      go_enter Tryz.func35,Tryz.ntmps35
      go_wp2_with fail
      refine (isNaN_any a ha _).mono ?_
      rw [HA.out]
      rintro e w' ⟨rfl,rfl⟩
      go_wp2_with fail
      refine (isNaN_any b hb _).mono ?_
      rw [HB.out]
      rintro e w' ⟨rfl,rfl⟩
      go_wp2
      go_ret2
      exact ⟨rfl,Below.refl _ _⟩
    | false =>
      simp only [Bool.or_self,Bool.false_eq_true,if_false] at h
      obtain ⟨hs,rfl⟩:=h
      have ra:=rank_any a ha
      have rb:=rank_any b hb
      generalize frank a=x at *
      generalize frank b=y at *
      have RA:=Lib.hid ra;clear ra
      have RB:=Lib.hid rb;clear rb
      subst hs
      have HC:=Lib.hid (compare64_any x y)
      generalize sgn3 x y=s at *
      go_enter Tryz.func35,Tryz.ntmps35
      go_wp2_with fail
      refine (isNaN_any a ha _).mono ?_
      rw [HA.out]
      rintro e w' ⟨rfl,rfl⟩
      go_wp2_with fail
      refine (isNaN_any b hb _).mono ?_
      rw [HB.out]
      rintro e w' ⟨rfl,rfl⟩
      go_wp2_with fail
      refine (RA.out _).mono ?_
      rintro e w' ⟨rfl,rfl⟩
      go_wp2_with fail
      refine (RB.out _).mono ?_
      rintro e w' ⟨rfl,rfl⟩
      go_wp2_with fail
      refine (HC.out _).mono ?_
      rintro e w' ⟨rfl,rfl⟩
      go_wp2
      go_ret2
      exact ⟨rfl,Below.refl _ _⟩
open Go.RowKit
def IBox (W:World) (g:Nat) (lo hi:Int):Prop:=W.heap[g]?=some (.cells #[.int .u64 lo,.int .u64 hi] 25 (0,0))
section
variable {W w w':World} {g:Nat} {lo hi:Int}
theorem IBox.c0 (h:IBox W g lo hi):W.cell? ⟨g,0,none⟩=some (.int .u64 lo):=by rw [cell_of_row W g 0 _ _ _ h];rfl
theorem IBox.c1 (h:IBox W g lo hi):W.cell? ⟨g,1,none⟩=some (.int .u64 hi):=by rw [cell_of_row W g 1 _ _ _ h];rfl
theorem IBox.f (h:IBox W g lo hi) (o:Nat):W.frozen? ⟨g,o,none⟩=false:=by
  unfold IBox at h;simp [World.frozen?,h]
theorem IBox.lt (h:IBox w g lo hi):g<w.heap.size:=lt_of_cell h.c0
theorem IBox.kept {B:Nat} (h:IBox w g lo hi) (hb:Below B w w') (hg:g<B):IBox w' g lo hi:=by
  unfold IBox;rw [hb.block g hg];exact h
theorem IBox.below (h:IBox w g lo hi) (hb:Below w.heap.size w w'):IBox w' g lo hi:=h.kept hb h.lt
theorem IBox.only {k:Nat} (h:IBox w g lo hi) (ho:Only k w w') (hne:g≠k):IBox w' g lo hi:=by
  unfold IBox;rw [ho.block g hne];exact h
theorem IBox.stored (h:IBox w g lo hi) (lo' hi':Int):IBox ((w.setCell ⟨g,0,none⟩ (.int .u64 lo')).setCell ⟨g,1,none⟩ (.int .u64 hi')) g lo' hi':=by
  unfold IBox at h ⊢
  simp [World.setCell,Array.getElem?_modify,h]
theorem IBox.drew (h:IBox w g lo hi):IBox w.drew g lo hi:=h
end
theorem IBox.new (w:World) (lo hi:Int):IBox (w.alloc (.cells #[.int .u64 lo,.int .u64 hi] 25)) w.heap.size lo hi:=heap_alloc_new w _
theorem ibox_new (w:World) (lo hi:Int) :
    ∃ W,W=w.alloc (.cells #[.int .u64 lo,.int .u64 hi] 25)∧Ext w W∧IBox W w.heap.size lo hi∧w.heap.size+1≤W.heap.size :=
  ⟨_,rfl,(Below.refl _ w).alloc (Nat.le_refl _) _,IBox.new w lo hi,by simp⟩
theorem ibox_two (w:World) (lo hi lo' hi':Int) :
    ∃ W,W=(w.alloc (.cells #[.int .u64 lo,.int .u64 hi] 25)).alloc (.cells #[.int .u64 lo',.int .u64 hi'] 25)∧Ext w W∧IBox W w.heap.size lo hi∧IBox W (w.heap.size+1) lo' hi'∧w.heap.size+2≤W.heap.size:=by
  refine ⟨_,rfl,((Below.refl _ w).alloc (Nat.le_refl _) _).alloc (by simp) _,?_,?_,by simp⟩
  · exact (IBox.new w lo hi).below ((Below.refl _ _).alloc (Nat.le_refl _) _)
  · have:=IBox.new (w.alloc (.cells #[.int .u64 lo,.int .u64 hi] 25)) lo' hi'
    simpa using this
theorem ibox_three (w:World) (lo hi lo' hi' l2 h2:Int) :
    ∃ W,W=((w.alloc (.cells #[.int .u64 lo,.int .u64 hi] 25)).alloc (.cells #[.int .u64 lo',.int .u64 hi'] 25)).alloc (.cells #[.int .u64 l2,.int .u64 h2] 25)∧Ext w W∧IBox W w.heap.size lo hi∧IBox W (w.heap.size+1) lo' hi'∧IBox W (w.heap.size+1+1) l2 h2∧w.heap.size+3≤W.heap.size:=by
  refine ⟨_,rfl,(((Below.refl _ w).alloc (Nat.le_refl _) _).alloc (by simp) _).alloc (by simp;omega) _,?_,?_,?_,by simp⟩
  · exact (IBox.new w lo hi).below (((Below.refl _ _).alloc (Nat.le_refl _) _).alloc (by simp) _)
  · have:=(IBox.new (w.alloc (.cells #[.int .u64 lo,.int .u64 hi] 25)) lo' hi').below ((Below.refl _ _).alloc (Nat.le_refl _) (.cells #[.int .u64 l2,.int .u64 h2] 25))
    simpa using this
  · have:=IBox.new ((w.alloc (.cells #[.int .u64 lo,.int .u64 hi] 25)).alloc (.cells #[.int .u64 lo',.int .u64 hi'] 25)) l2 h2
    simpa using this
theorem only_iset2 (w:World) (g:Nat) (u v:Value):Only g w ((w.setCell ⟨g,0,none⟩ u).setCell ⟨g,1,none⟩ v):=((Only.refl g w).setCell _ _).setCell _ _
def lessF (a b:Nat):Bool:=!nanB a&&!nanB b&&decide (frank a<frank b)
theorem less_sgn {a b:Nat} {s:Int} {ok:Bool} (h:FcmpOut a b s ok):decide (s<0)=lessF a b:=by
  unfold FcmpOut at h
  unfold lessF
  cases ha:nanB a <;> cases hb:nanB b <;> simp [ha,hb] at h ⊢ <;> (first | omega | (rw [h.1];unfold sgn3;split <;> (try split) <;> omega))
theorem fcmp_some (a b:Nat):∃ s ok,FcmpOut a b s ok:=by
  cases ha:nanB a
  · cases hb:nanB b
    · exact ⟨_,true,fcmp_num ha hb rfl⟩
    · exact ⟨0,false,fcmp_nan (Or.inr hb)⟩
  · exact ⟨0,false,fcmp_nan (Or.inl ha)⟩
set_option maxRecDepth 100000 in
theorem isLess_any (a b:Nat) (ha:a<18446744073709551616) (hb:b<18446744073709551616) (w:World) :
    Calls Tryz.prog 59 #[.int .u64 (a:Int),.int .u64 (b:Int)] w fun e w'=>e=.returned (.bool (lessF a b))∧Ext w w':=by
  obtain ⟨s,ok,hc⟩:=fcmp_some a b
  have C:=Lib.hid (fcmp_any a b ha hb s ok hc)
  rw [←less_sgn hc]
  clear hc ha hb
  go_enter Tryz.func59,Tryz.ntmps59
  go_wp2_with fail
  refine (C.out _).mono ?_
  rintro r w1 ⟨rfl,hE⟩
  go_wp2
  go_ret
  exact ⟨rfl,hE⟩
def validF (lo hi:Nat):Bool:=!nanB lo&&!nanB hi&&decide (frank lo≤frank hi)&&decide (lo≠9218868437227405312)&&decide (hi≠18442240474082181120)
theorem valid_sgn {a b:Nat} {s:Int} {ok:Bool} (h:FcmpOut a b s ok):(ok&&decide (s≤0)&&decide (a≠9218868437227405312)&&decide (b≠18442240474082181120))=validF a b:=by
  unfold FcmpOut at h
  unfold validF
  cases ha:nanB a <;> cases hb:nanB b <;> simp [ha,hb] at h ⊢ <;> (first | (rw [h.2];simp;done) | (rw [h.1,h.2];unfold sgn3;congr 2;simp;split <;> (try split) <;> omega))
set_option maxRecDepth 100000 in
set_option maxHeartbeats 2000000 in
theorem ivalid_any (lo hi:Nat) (hl:lo<18446744073709551616) (hh:hi<18446744073709551616) (b:Bool) (hb:validF lo hi=b) (w:World) :
    Calls Tryz.prog 5 #[.agg #[.int .u64 (lo:Int),.int .u64 (hi:Int)]] w fun e w'=>e=.returned (.bool b)∧Ext w w':=by
  obtain ⟨s,ok,hc⟩:=fcmp_some lo hi
  have C:=Lib.hid (fcmp_any lo hi hl hh s ok hc)
  have hv:=valid_sgn hc
  rw [hb] at hv
  have e1:decide (lo≠9218868437227405312)=((lo:Int) != 9218868437227405312):=by
    by_cases h:lo=9218868437227405312
    · subst h;rfl
    · rw [decide_eq_true h];simp;omega
  have e2:decide (hi≠18442240474082181120)=((hi:Int) != 18442240474082181120):=by
    by_cases h:hi=18442240474082181120
    · subst h;rfl
    · rw [decide_eq_true h];simp;omega
  rw [e1,e2] at hv
  obtain ⟨p,hp⟩:∃ p,((lo:Int) != 9218868437227405312)=p:=⟨_,rfl⟩
  obtain ⟨q,hq⟩:∃ q,((hi:Int) != 18442240474082181120)=q:=⟨_,rfl⟩
  rw [hp,hq] at hv
  have HV:=Lib.hid hv
  clear hv hc hl hh hb e1 e2
  go_enter Tryz.func5,Tryz.ntmps5
  go_wp2_with fail
  obtain ⟨W,hW,hB,hx,hsz⟩:=ibox_new w lo hi
  rw [←hW]
  clear hW
  have c0:=hx.c0
  have c1:=hx.c1
  have HB:=Lib.hid hB
  generalize w.heap.size=B at hx c0 c1 ⊢
  clear hB hsz
  go_wp2_with fail
  refine (C.out _).mono ?_
  rintro r w1 ⟨rfl,hE⟩
  have hx:=hx.below hE
  have EX:=Lib.hid (HB.out.trans hE)
  clear c0 c1 hE
  have c0:=hx.c0
  have c1:=hx.c1
  cases ok with
  | false =>
    go_wp2
    go_ret
    exact ⟨ret_bool (by rw [←HV.out];rfl),EX.out⟩
  | true =>
    by_cases hs:s≤0
    · have HS:=Lib.hid (show decide (s≤0)=true from decide_eq_true hs)
      cases p with
      | false =>
        go_wp2
        go_ret
        exact ⟨ret_bool (by rw [←HV.out,HS.out];rfl),EX.out⟩
      | true =>
        cases q with
        | false =>
          go_wp2
          go_ret
          exact ⟨ret_bool (by rw [←HV.out,HS.out];rfl),EX.out⟩
        | true =>
          go_wp2
          go_ret
          exact ⟨ret_bool (by rw [←HV.out,HS.out];rfl),EX.out⟩
    · have HS:=Lib.hid (show decide (s≤0)=false from decide_eq_false hs)
      go_wp2
      go_ret
      exact ⟨ret_bool (by rw [←HV.out,HS.out];rfl),EX.out⟩
def plainF (f:Nat):Nat:=if f=9223372036854775808 then 0 else f
set_option maxRecDepth 100000 in
theorem plain_any (f:Nat) (w:World) :
    Calls Tryz.prog 87 #[.int .u64 (f:Int)] w fun e w'=>e=.returned (.int .u64 ((plainF f:Nat):Int))∧w=w':=by
  unfold plainF
  by_cases h:f=9223372036854775808
  · subst h
    go_enter Tryz.func87,Tryz.ntmps87
    go_wp2
    go_ret
    exact ⟨rfl,rfl⟩
  · rw [if_neg h]
    have h1:((f:Int) == 9223372036854775808)=false:=by rw [beq_eq_false_iff_ne];omega
    go_enter Tryz.func87,Tryz.ntmps87
    go_wp2
    go_ret
    exact ⟨rfl,rfl⟩
set_option maxRecDepth 100000 in
theorem whole_any (w:World) :
    Calls Tryz.prog 38 #[] w fun e w'=>e=.returned (.agg #[.int .u64 18442240474082181120,.int .u64 9218868437227405312])∧Ext w w':=by
  go_enter Tryz.func38,Tryz.ntmps38
  go_wp2
  exact bodyPost_ret (v:=.agg #[.int .u64 18442240474082181120,.int .u64 9218868437227405312]) (by simp [results,Tryz.results38,go_sem]) rfl ⟨rfl,((Below.refl _ _).alloc (Nat.le_refl _) _)⟩
set_option maxRecDepth 100000 in
set_option maxHeartbeats 1000000 in
theorem between_any (a b:Nat) (w:World) :
    Calls Tryz.prog 39 #[.int .u64 (a:Int),.int .u64 (b:Int)] w fun e w'=>e=.returned (.agg #[.int .u64 ((plainF a:Nat):Int),.int .u64 ((plainF b:Nat):Int)])∧Ext w w':=by
  have CA:=Lib.hid (plain_any a)
  have CB:=Lib.hid (plain_any b)
  obtain ⟨x,hx⟩:∃ x:Int,((plainF a:Nat):Int)=x:=⟨_,rfl⟩
  obtain ⟨y,hy⟩:∃ y:Int,((plainF b:Nat):Int)=y:=⟨_,rfl⟩
  rw [hx] at CA ⊢
  rw [hy] at CB ⊢
  clear hx hy
  go_enter Tryz.func39,Tryz.ntmps39
  go_wp2_with fail
  obtain ⟨W,hW,hB,hbx,hsz⟩:=ibox_new w 0 0
  rw [←hW]
  clear hW
  generalize hBe:w.heap.size=B at *
  have HBe:=Lib.hid hBe
  have hB:Below B w W:=by rw [←hBe];exact hB
  clear hBe
  refine (CA.out _).mono ?_
  rintro r w1 ⟨rfl,rfl⟩
  go_wp2_with fail
  refine (CB.out _).mono ?_
  rintro r w1 ⟨rfl,rfl⟩
  have q0:=hbx.c0
  have q1:=hbx.c1
  have q2:=hbx.f 0
  have q3:=hbx.f 1
  have hst:=hbx.stored x y
  have z0:=hst.c0
  have z1:=hst.c1
  have HB:=Lib.hid (hB.trans ((only_iset2 _ B (.int .u64 x) (.int .u64 y)).below (Nat.le_refl B)))
  clear hst hB
  go_wp2
  refine bodyPost_ret (v:=.agg #[.int .u64 x,.int .u64 y]) (by simp [results,Tryz.results39,go_sem,z0,z1]) rfl ⟨rfl,?_⟩
  show Below _ _ _
  rw [HBe.out]
  exact HB.out
open Go.RowKit
def wholeV:Value:=.agg #[.int .u64 18442240474082181120,.int .u64 9218868437227405312]
theorem isFinite_at (f:Nat) (hf:f<18446744073709551616) (b:Bool) (hb:finB f=b) (w:World) :
    Calls Tryz.prog 37 #[.int .u64 (f:Int)] w fun e w'=>e=.returned (.bool b)∧w=w':=by
  rw [←hb];exact isFinite_any f hf w
set_option maxRecDepth 100000 in
set_option maxHeartbeats 1000000 in
theorem point_any (f:Nat) (hf:f<18446744073709551616) (v:Value) (hv:(if finB f then .agg #[.int .u64 ((plainF f:Nat):Int),.int .u64 ((plainF f:Nat):Int)] else wholeV)=v) (w:World) :
    Calls Tryz.prog 7 #[.int .u64 (f:Int)] w fun e w'=>e=.returned v∧Ext w w':=by
  cases hb:finB f with
  | false =>
    rw [hb,if_neg (by simp)] at hv
    subst hv
    have C:=Lib.hid (isFinite_at f hf false hb)
    unfold wholeV
    clear hb hf
    go_enter Tryz.func7,Tryz.ntmps7
    go_wp2_with fail
    obtain ⟨W,hW,hB,hbx,hsz⟩:=ibox_new w 0 0
    rw [←hW]
    clear hW
    generalize hBe:w.heap.size=B at *
    have HBe:=Lib.hid hBe
    have hB:Below B w W:=by rw [←hBe];exact hB
    clear hBe
    refine (C.out _).mono ?_
    rintro r w1 ⟨rfl,rfl⟩
    go_wp2_with fail
    refine (whole_any _).mono ?_
    rintro r w2 ⟨rfl,hE⟩
    have bx:=hbx.below hE
    have hB2:=hB.trans (Below.mono hE (by omega))
    clear hbx hB hE
    have q0:=bx.c0
    have q1:=bx.c1
    have q2:=bx.f 0
    have q3:=bx.f 1
    have hst:=bx.stored 18442240474082181120 9218868437227405312
    have z0:=hst.c0
    have z1:=hst.c1
    have HB:=Lib.hid (hB2.trans ((only_iset2 w2 B (.int .u64 18442240474082181120) (.int .u64 9218868437227405312)).below (Nat.le_refl B)))
    clear hst hB2
    go_wp2
    refine bodyPost_ret (v:=.agg #[.int .u64 18442240474082181120,.int .u64 9218868437227405312]) (by simp [results,Tryz.results7,go_sem,z0,z1]) rfl ⟨rfl,?_⟩
    show Below _ _ _
    rw [HBe.out]
    exact HB.out
  | true =>
    rw [hb,if_pos rfl] at hv
    subst hv
    have C:=Lib.hid (isFinite_at f hf true hb)
    have CB:=Lib.hid (between_any f f)
    obtain ⟨x,hx⟩:∃ x:Int,((plainF f:Nat):Int)=x:=⟨_,rfl⟩
    rw [hx] at CB ⊢
    clear hx hb hf
    go_enter Tryz.func7,Tryz.ntmps7
    go_wp2_with fail
    obtain ⟨W,hW,hB,hbx,hsz⟩:=ibox_new w 0 0
    rw [←hW]
    clear hW
    generalize hBe:w.heap.size=B at *
    have HBe:=Lib.hid hBe
    have hB:Below B w W:=by rw [←hBe];exact hB
    clear hBe
    refine (C.out _).mono ?_
    rintro r w1 ⟨rfl,rfl⟩
    go_wp2_with fail
    refine (CB.out _).mono ?_
    rintro r w2 ⟨rfl,hE⟩
    have bx:=hbx.below hE
    have hB2:=hB.trans (Below.mono hE (by omega))
    clear hbx hB hE
    have q0:=bx.c0
    have q1:=bx.c1
    have q2:=bx.f 0
    have q3:=bx.f 1
    have hst:=bx.stored x x
    have z0:=hst.c0
    have z1:=hst.c1
    have HB:=Lib.hid (hB2.trans ((only_iset2 w2 B (.int .u64 x) (.int .u64 x)).below (Nat.le_refl B)))
    clear hst hB2
    go_wp2
    refine bodyPost_ret (v:=.agg #[.int .u64 x,.int .u64 x]) (by simp [results,Tryz.results7,go_sem,z0,z1]) rfl ⟨rfl,?_⟩
    show Below _ _ _
    rw [HBe.out]
    exact HB.out
def subF (a b c d:Nat):Bool:=validF a b&&validF c d&&!lessF a c&&!lessF d b
theorem ivalid_at {aI bI:Int} (lo hi:Nat) (hl:lo<18446744073709551616) (hh:hi<18446744073709551616) (hA:(lo:Int)=aI) (hB:(hi:Int)=bI) (b:Bool) (hb:validF lo hi=b) (w:World) :
    Calls Tryz.prog 5 #[.agg #[.int .u64 aI,.int .u64 bI]] w fun e w'=>e=.returned (.bool b)∧Ext w w':=by
  rw [←hA,←hB];exact ivalid_any lo hi hl hh b hb w
theorem isLess_at {aI bI:Int} (a b:Nat) (ha:a<18446744073709551616) (hb:b<18446744073709551616) (hA:(a:Int)=aI) (hB:(b:Int)=bI) (r:Bool) (hr:lessF a b=r) (w:World) :
    Calls Tryz.prog 59 #[.int .u64 aI,.int .u64 bI] w fun e w'=>e=.returned (.bool r)∧Ext w w':=by
  rw [←hA,←hB,←hr];exact isLess_any a b ha hb w
set_option maxRecDepth 100000 in
set_option maxHeartbeats 4000000 in
theorem subset_yes (a b c d:Nat) (ha:a<18446744073709551616) (hb:b<18446744073709551616) (hc:c<18446744073709551616) (hd:d<18446744073709551616) (h:subF a b c d=true) (w:World) :
    Calls Tryz.prog 64 #[.agg #[.int .u64 (a:Int),.int .u64 (b:Int)],.agg #[.int .u64 (c:Int),.int .u64 (d:Int)]] w fun e w'=>e=.returned (.bool true)∧Ext w w':=by
  unfold subF at h
  simp only [Bool.and_eq_true,Bool.not_eq_true'] at h
  obtain ⟨⟨⟨h1,h2⟩,h3⟩,h4⟩:=h
  have C1:=Lib.hid (ivalid_at a b ha hb rfl rfl true h1)
  have C2:=Lib.hid (ivalid_at c d hc hd rfl rfl true h2)
  have C3:=Lib.hid (isLess_at a c ha hc rfl rfl false h3)
  have C4:=Lib.hid (isLess_at d b hd hb rfl rfl false h4)
  clear h1 h2 h3 h4 ha hb hc hd
  go_enter Tryz.func64,Tryz.ntmps64
  go_wp2_with fail
  obtain ⟨W,hW,hB,hx,hy,hsz⟩:=ibox_two w a b c d
  rw [←hW]
  clear hW
  have HB:=Lib.hid hB
  generalize w.heap.size=B at hx hy ⊢
  clear hB hsz
  have c0:=hx.c0
  have c1:=hx.c1
  have c2:=hy.c0
  have c3:=hy.c1
  go_wp2_with fail
  refine (C1.out _).mono ?_
  rintro r w1 ⟨rfl,hE⟩
  have hx:=hx.below hE
  have hy:=hy.below hE
  have HB:=Lib.hid (HB.out.trans hE)
  clear c0 c1 c2 c3 hE
  have c0:=hx.c0
  have c1:=hx.c1
  have c2:=hy.c0
  have c3:=hy.c1
  go_wp2_with fail
  refine (C2.out _).mono ?_
  rintro r w2 ⟨rfl,hE⟩
  have hx:=hx.below hE
  have hy:=hy.below hE
  have HB:=Lib.hid (HB.out.trans hE)
  clear c0 c1 c2 c3 hE
  have c0:=hx.c0
  have c1:=hx.c1
  have c2:=hy.c0
  have c3:=hy.c1
  go_wp2_with fail
  refine (C3.out _).mono ?_
  rintro r w3 ⟨rfl,hE⟩
  have hx:=hx.below hE
  have hy:=hy.below hE
  have HB:=Lib.hid (HB.out.trans hE)
  clear c0 c1 c2 c3 hE
  have c0:=hx.c0
  have c1:=hx.c1
  have c2:=hy.c0
  have c3:=hy.c1
  go_wp2_with fail
  refine (C4.out _).mono ?_
  rintro r w4 ⟨rfl,hE⟩
  have hx:=hx.below hE
  have hy:=hy.below hE
  have HB:=Lib.hid (HB.out.trans hE)
  clear c0 c1 c2 c3 hE
  have c0:=hx.c0
  have c1:=hx.c1
  have c2:=hy.c0
  have c3:=hy.c1
  go_wp2
  go_ret
  exact ⟨rfl,HB.out⟩
set_option maxRecDepth 100000 in
set_option maxHeartbeats 8000000 in
theorem iadd_yes (a b c d:Nat) (ha:a<18446744073709551616) (hb:b<18446744073709551616) (hc:c<18446744073709551616) (hd:d<18446744073709551616) (h1:validF a b=true) (h2:validF c d=true) (w:World) :
    Calls Tryz.prog 11 #[.agg #[.int .u64 (a:Int),.int .u64 (b:Int)],.agg #[.int .u64 (c:Int),.int .u64 (d:Int)]] w fun e w'=>e=.returned (.agg #[.int .u64 ((plainF (faddF a c 1):Nat):Int),.int .u64 ((plainF (faddF b d 2):Nat):Int)])∧Ext w w':=by
  have C1:=Lib.hid (ivalid_at a b ha hb rfl rfl true h1)
  have C2:=Lib.hid (ivalid_at c d hc hd rfl rfl true h2)
  have C3:=Lib.hid (fadd_any a c 1 ha hc)
  have C4:=Lib.hid (fadd_any b d 2 hb hd)
  have C5:=Lib.hid (between_any (faddF a c 1) (faddF b d 2))
  obtain ⟨x,hx⟩:∃ x:Int,((plainF (faddF a c 1):Nat):Int)=x:=⟨_,rfl⟩
  obtain ⟨y,hy⟩:∃ y:Int,((plainF (faddF b d 2):Nat):Int)=y:=⟨_,rfl⟩
  rw [hx,hy] at C5 ⊢
  clear hx hy h1 h2 ha hb hc hd
  generalize faddF a c 1=R1 at *
  generalize faddF b d 2=R2 at *
  go_enter Tryz.func11,Tryz.ntmps11
  go_wp2_with fail
  obtain ⟨W,hW,hB,hx,hy,hbx,hsz⟩:=ibox_three w a b c d 0 0
  rw [←hW]
  clear hW
  generalize hBe:w.heap.size=B at *
  have HBe:=Lib.hid hBe
  have HB:Hid (Below B w W):=Lib.hid (by rw [←hBe];exact hB)
  clear hBe hB
  have hBs:B+3≤W.heap.size:=hsz
  clear hsz
  have c0:=hx.c0
  have c1:=hx.c1
  have c2:=hy.c0
  have c3:=hy.c1
  go_wp2_with fail
  refine (C1.out _).mono ?_
  rintro r w1 ⟨rfl,hE⟩
  have hx:=hx.below hE
  have hy:=hy.below hE
  have hbx:=hbx.below hE
  have HB:=Lib.hid (HB.out.trans (Below.mono hE (by omega)))
  have hBs:B+3≤w1.heap.size:=by have:=Below.size hE;omega
  clear c0 c1 c2 c3 hE
  have c0:=hx.c0
  have c1:=hx.c1
  have c2:=hy.c0
  have c3:=hy.c1
  go_wp2_with fail
  refine (C2.out _).mono ?_
  rintro r w2 ⟨rfl,hE⟩
  have hx:=hx.below hE
  have hy:=hy.below hE
  have hbx:=hbx.below hE
  have HB:=Lib.hid (HB.out.trans (Below.mono hE (by omega)))
  have hBs:B+3≤w2.heap.size:=by have:=Below.size hE;omega
  clear c0 c1 c2 c3 hE
  have c0:=hx.c0
  have c1:=hx.c1
  have c2:=hy.c0
  have c3:=hy.c1
  go_wp2_with fail
  have TAG:=Lib.hid trivial
  go_region_held3 (fun wx=>wx.cell? ⟨B,0,none⟩=some (.int .u64 (a:Int))∧wx.cell? ⟨B,1,none⟩=some (.int .u64 (b:Int))∧wx.cell? ⟨B+1,0,none⟩=some (.int .u64 (c:Int))∧wx.cell? ⟨B+1,1,none⟩=some (.int .u64 (d:Int)))
    (first | exact ⟨c0,c1,c2,c3⟩ | exact ⟨x1.c0,x1.c1,y1.c0,y1.c1⟩ | exact ⟨x2.c0,x2.c1,y2.c0,y2.c1⟩ | exact ⟨x3.c0,x3.c1,y3.c0,y3.c1⟩ | (refine ⟨?_,?_,?_,?_⟩ <;> go_simp))
    (first
      | (go_at_call 45;clear TAG;refine (C3.out _).mono ?_;rintro r w3 ⟨rfl,hE1⟩;have x1:=hx.drew.below hE1;have y1:=hy.drew.below hE1;have b1:=hbx.drew.below hE1;have e0:=x1.c0;have e1:=x1.c1;have e2:=y1.c0;have e3:=y1.c1)
      | (go_at_call 45;refine (C4.out _).mono ?_;rintro r w4 ⟨rfl,hE2⟩;have x2:=x1.below hE2;have y2:=y1.below hE2;have b2:=b1.below hE2;clear e0 e1 e2 e3;have e0:=x2.c0;have e1:=x2.c1;have e2:=y2.c0;have e3:=y2.c1)
      | (go_at_call 39;refine (C5.out _).mono ?_;rintro r w5 ⟨rfl,hE3⟩;have x3:=x2.below hE3;have y3:=y2.below hE3;have b3:=b2.below hE3;clear e0 e1 e2 e3;have e0:=x3.c0;have e1:=x3.c1;have e2:=y3.c0;have e3:=y3.c1;have q0:=b3.c0;have q1:=b3.c1;have q2:=b3.f 0;have q3:=b3.f 1))
  have hB2:=((HB.out.trans (Below.mono (Below.refl _ w2).drew (Nat.le_of_lt hx.lt))).trans (Below.mono hE1 (Nat.le_of_lt hx.drew.lt))).trans (Below.mono hE2 (Nat.le_of_lt x1.lt))
  have hB2:=hB2.trans (Below.mono hE3 (Nat.le_of_lt x2.lt))
  have bx:=b3
  have hst:=bx.stored x y
  have z0:=hst.c0
  have z1:=hst.c1
  have HB:=Lib.hid (hB2.trans ((only_iset2 w5 (B+1+1) (.int .u64 x) (.int .u64 y)).below (by omega)))
  clear hst hB2
  go_wp2
  refine bodyPost_ret (v:=.agg #[.int .u64 x,.int .u64 y]) (by simp [results,Tryz.results11,go_sem,z0,z1]) rfl ⟨rfl,?_⟩
  show Below _ _ _
  rw [HBe.out]
  exact HB.out
open Go.RowKit
def FB (W:World) (g:Nat) (l:List Nat):Prop:=W.heap[g]?=some (.cells (l.map fun (f:Nat)=>Value.int .u64 (f:Int)).toArray 23 (0,0))
theorem FB.cell {W:World} {g:Nat} {l:List Nat} (h:FB W g l) (j:Nat) (hj:j<l.length):W.cell? ⟨g,j,none⟩=some (.int .u64 ((l.getD j 0:Nat):Int)):=by
  rw [cell_of_row W g j _ _ _ h]
  simp [List.getD,hj]
theorem FB.f {W:World} {g:Nat} {l:List Nat} (h:FB W g l) (o:Nat):W.frozen? ⟨g,o,none⟩=false:=by
  unfold FB at h;simp [World.frozen?,h]
theorem FB.kept {w w':World} {g B:Nat} {l:List Nat} (h:FB w g l) (hb:Below B w w') (hg:g<B):FB w' g l:=by
  unfold FB;rw [hb.block g hg];exact h
theorem FB.lt {w:World} {g:Nat} {l:List Nat} (h:FB w g l):g<w.heap.size:=(Array.getElem?_eq_some_iff.1 h).1
theorem FB.below {w w':World} {g:Nat} {l:List Nat} (h:FB w g l) (hb:Below w.heap.size w w'):FB w' g l:=h.kept hb h.lt
def leastF (l:List Nat):Nat:=l.foldl (fun m f=>if lessF f m then f else m) 9218868437227405312
def greatF (l:List Nat):Nat:=l.foldl (fun m f=>if lessF m f then f else m) 18442240474082181120
theorem leastF_next (l:List Nat) (j:Nat) (h:j<l.length):leastF (l.take (j+1))=if lessF (l.getD j 0) (leastF (l.take j)) then l.getD j 0 else leastF (l.take j):=by
  unfold leastF
  rw [List.take_succ_eq_append_getElem h,List.foldl_append]
  simp [List.getD,h]
theorem greatF_next (l:List Nat) (j:Nat) (h:j<l.length):greatF (l.take (j+1))=if lessF (greatF (l.take j)) (l.getD j 0) then l.getD j 0 else greatF (l.take j):=by
  unfold greatF
  rw [List.take_succ_eq_append_getElem h,List.foldl_append]
  simp [List.getD,h]
theorem getD_lt {l:List Nat} (hl:∀ x∈l,x<18446744073709551616) (j:Nat):l.getD j 0<18446744073709551616:=by
  by_cases h:j<l.length
  · simp only [List.getD,List.getElem?_eq_getElem h,Option.getD_some]
    exact hl _ (List.getElem_mem h)
  · simp [List.getD,List.getElem?_eq_none (by omega:l.length≤j)]
theorem leastF_lt {l:List Nat} (hl:∀ x∈l,x<18446744073709551616):leastF l<18446744073709551616:=by
  unfold leastF
  have:∀ (l:List Nat) (m:Nat),m<18446744073709551616→(∀ x∈l,x<18446744073709551616)→l.foldl (fun m f=>if lessF f m then f else m) m<18446744073709551616:=by
    intro l
    induction l with
    | nil=>intro m hm _;exact hm
    | cons x l ih =>
      intro m hm h
      refine ih _ ?_ (fun y hy=>h y (by simp [hy]))
      show (if lessF x m then x else m)<18446744073709551616
      split
      · exact h x (by simp)
      · exact hm
  exact this l _ (by decide) hl
theorem greatF_lt {l:List Nat} (hl:∀ x∈l,x<18446744073709551616):greatF l<18446744073709551616:=by
  unfold greatF
  have:∀ (l:List Nat) (m:Nat),m<18446744073709551616→(∀ x∈l,x<18446744073709551616)→l.foldl (fun m f=>if lessF m f then f else m) m<18446744073709551616:=by
    intro l
    induction l with
    | nil=>intro m hm _;exact hm
    | cons x l ih =>
      intro m hm h
      refine ih _ ?_ (fun y hy=>h y (by simp [hy]))
      show (if lessF m x then x else m)<18446744073709551616
      split
      · exact h x (by simp)
      · exact hm
  exact this l _ (by decide) hl
set_option maxRecDepth 100000 in
set_option maxHeartbeats 2000000 in
theorem least_any (g:Nat) (l:List Nat) (n:Nat) (hn:l.length=n) (hn1:n≤1000) (hl:∀ x∈l,x<18446744073709551616) (w:World) (h:FB w g l) :
    Calls Tryz.prog 63 #[.slice (some ⟨g,0,none⟩) n n] w fun e w'=>e=.returned (.int .u64 ((leastF l:Nat):Int))∧Ext w w':=by
  have HN:=Lib.hid hn;clear hn
  have HL:=Lib.hid hl;clear hl
  go_enter Tryz.func63,Tryz.ntmps63
  go_wp2
  go_loopw [3,5,8] (fun m _ i wr=>∃ j:Nat,j≤n∧i=.int .i64 (j:Int)∧m=.int .u64 ((leastF (l.take j):Nat):Int)∧Ext w wr) (fun _ _ i _=>n - (intOf i).toNat)
  case atStart=>exact ⟨0,Nat.zero_le _,rfl,rfl,Ext.refl w⟩
  case round =>
    obtain ⟨j,hj,rfl,rfl,hE⟩:=hrel
    have hb:=h.below hE
    have HE:=Lib.hid hE
    by_cases hlt:j<n
    · have hc:=hb.cell j (by rw [HN.out];exact hlt)
      have hnext:=leastF_next l j (by rw [HN.out];exact hlt)
      have hx:=getD_lt HL.out j
      have hm:=leastF_lt (l:=l.take j) (fun x hx=>HL.out x (List.mem_of_mem_take hx))
      obtain ⟨x,hxe⟩:∃ x,l.getD j 0=x:=⟨_,rfl⟩
      obtain ⟨m,hme⟩:∃ m,leastF (l.take j)=m:=⟨_,rfl⟩
      rw [hxe] at hc hnext hx
      rw [hme] at hnext hm ⊢
      clear hxe hme hE hb
      cases hr:lessF x m with
      | true =>
        have C:=Lib.hid (isLess_at x m hx hm rfl rfl true hr)
        rw [hr,if_pos rfl] at hnext
        have HNX:=Lib.hid hnext
        clear hnext hr hx hm
        go_wp2_with fail
        refine (C.out _).mono ?_
        rintro r w1 ⟨rfl,hE1⟩
        go_wp2
        go_roundw
        case rel=>exact ⟨j+1,by omega,by go_num,by rw [HNX.out],Ext.trans HE.out hE1⟩
        case measure=>simp [intOf] <;> omega
      | false =>
        have C:=Lib.hid (isLess_at x m hx hm rfl rfl false hr)
        rw [hr,if_neg (by simp)] at hnext
        have HNX:=Lib.hid hnext
        clear hnext hr hx hm
        go_wp2_with fail
        refine (C.out _).mono ?_
        rintro r w1 ⟨rfl,hE1⟩
        go_wp2
        go_roundw
        case rel=>exact ⟨j+1,by omega,by go_num,by rw [HNX.out],Ext.trans HE.out hE1⟩
        case measure=>simp [intOf] <;> omega
    · obtain rfl:j=n:=by omega
      have HT:=Lib.hid (show l.take j=l from List.take_of_length_le (by rw [HN.out];exact Nat.le_refl _))
      clear hE hb
      go_wp2
      go_ret
      exact ⟨ret_int (by rw [HT.out]),HE.out⟩
set_option maxRecDepth 100000 in
set_option maxHeartbeats 2000000 in
theorem greatest_any (g:Nat) (l:List Nat) (n:Nat) (hn:l.length=n) (hn1:n≤1000) (hl:∀ x∈l,x<18446744073709551616) (w:World) (h:FB w g l) :
    Calls Tryz.prog 60 #[.slice (some ⟨g,0,none⟩) n n] w fun e w'=>e=.returned (.int .u64 ((greatF l:Nat):Int))∧Ext w w':=by
  have HN:=Lib.hid hn;clear hn
  have HL:=Lib.hid hl;clear hl
  go_enter Tryz.func60,Tryz.ntmps60
  go_wp2
  go_loopw [3,5,8] (fun m _ i wr=>∃ j:Nat,j≤n∧i=.int .i64 (j:Int)∧m=.int .u64 ((greatF (l.take j):Nat):Int)∧Ext w wr) (fun _ _ i _=>n - (intOf i).toNat)
  case atStart=>exact ⟨0,Nat.zero_le _,rfl,rfl,Ext.refl w⟩
  case round =>
    obtain ⟨j,hj,rfl,rfl,hE⟩:=hrel
    have hb:=h.below hE
    have HE:=Lib.hid hE
    by_cases hlt:j<n
    · have hc:=hb.cell j (by rw [HN.out];exact hlt)
      have hnext:=greatF_next l j (by rw [HN.out];exact hlt)
      have hx:=getD_lt HL.out j
      have hm:=greatF_lt (l:=l.take j) (fun x hx=>HL.out x (List.mem_of_mem_take hx))
      obtain ⟨x,hxe⟩:∃ x,l.getD j 0=x:=⟨_,rfl⟩
      obtain ⟨m,hme⟩:∃ m,greatF (l.take j)=m:=⟨_,rfl⟩
      rw [hxe] at hc hnext hx
      rw [hme] at hnext hm ⊢
      clear hxe hme hE hb
      cases hr:lessF m x with
      | true =>
        have C:=Lib.hid (isLess_at m x hm hx rfl rfl true hr)
        rw [hr,if_pos rfl] at hnext
        have HNX:=Lib.hid hnext
        clear hnext hr hx hm
        go_wp2_with fail
        refine (C.out _).mono ?_
        rintro r w1 ⟨rfl,hE1⟩
        go_wp2
        go_roundw
        case rel=>exact ⟨j+1,by omega,by go_num,by rw [HNX.out],Ext.trans HE.out hE1⟩
        case measure=>simp [intOf] <;> omega
      | false =>
        have C:=Lib.hid (isLess_at m x hm hx rfl rfl false hr)
        rw [hr,if_neg (by simp)] at hnext
        have HNX:=Lib.hid hnext
        clear hnext hr hx hm
        go_wp2_with fail
        refine (C.out _).mono ?_
        rintro r w1 ⟨rfl,hE1⟩
        go_wp2
        go_roundw
        case rel=>exact ⟨j+1,by omega,by go_num,by rw [HNX.out],Ext.trans HE.out hE1⟩
        case measure=>simp [intOf] <;> omega
    · obtain rfl:j=n:=by omega
      have HT:=Lib.hid (show l.take j=l from List.take_of_length_le (by rw [HN.out];exact Nat.le_refl _))
      clear hE hb
      go_wp2
      go_ret
      exact ⟨ret_int (by rw [HT.out]),HE.out⟩
end Go.Proofs.YtkomhemjodbkpaaGreatDoor
