import Derived.Test.YtkomhemjodbkpaaGreatDoorIExLawU8
import Derived.Test.YtkomhemjodbkpaaGreatDoorIExLawU0
import Derived.Test.YtkomhemjodbkpaaGreatDoorIExLawU3
import Derived.Deep.RegionHeld3
import Derived.Test.YtkomhemjodbkpaaGreatDoorIExLawU7
import Derived.WalkKit
import Derived.WalkSmall
import Derived.Lib.Hide
import Derived.Deep.CutRange
namespace Go.Proofs.YtkomhemjodbkpaaGreatDoor
open Go.RowKit
theorem kind_fields {f q r:Nat} (hq:f / 4503599627370496 % 2048=q) (hr:f % 4503599627370496=r):fmag f=q*4503599627370496+r∧q<2048∧r<4503599627370496:=by
  unfold fmag
  omega
theorem and_fields (f:Nat) (hf:f<18446744073709551616):bits BinOp.and IntKind.u64 ((f:Int) / 4503599627370496) 2047=((f / 4503599627370496 % 2048:Nat):Int)∧bits BinOp.and IntKind.u64 (f:Int) 4503599627370495=((f % 4503599627370496:Nat):Int):=by
  have h1:(f:Int) / 4503599627370496=((f / 4503599627370496:Nat):Int):=(Int.natCast_ediv _ _).symm
  have h2:=bits_and_u64_nat (f / 4503599627370496) 2047 (by omega) (by omega)
  rw [show (2047:Nat)=2^11 - 1 from rfl,Nat.and_two_pow_sub_one_eq_mod] at h2
  have h3:=bits_and_u64_nat f 4503599627370495 (by omega) (by omega)
  rw [show (4503599627370495:Nat)=2^52 - 1 from rfl,Nat.and_two_pow_sub_one_eq_mod] at h3
  rw [h1]
  exact ⟨h2,h3⟩
set_option maxRecDepth 100000 in
set_option maxHeartbeats 1000000 in
theorem refKind_any (f:Nat) (hf:f<18446744073709551616) (w:World) :
    Calls Tryz.prog 127 #[.int .u64 (f:Int)] w fun e w'=>e=.returned (.int .i64 (fkind f))∧w=w':=by
  obtain ⟨h1,h2⟩:=and_fields f hf
  obtain ⟨q,hq⟩:∃ q:Nat,f / 4503599627370496 % 2048=q:=⟨_,rfl⟩
  obtain ⟨r,hr⟩:∃ r:Nat,f % 4503599627370496=r:=⟨_,rfl⟩
  obtain ⟨hm,hq',hr'⟩:=kind_fields hq hr
  rw [hq] at h1
  rw [hr] at h2
  have hk:=fkind_cases f
  rw [hm] at hk
  generalize fkind f=k at *
  clear hq hr hm hf
  by_cases c1:q=2047
  · have b1:((q:Int) == 2047)=true:=by rw [beq_iff_eq];omega
    by_cases c2:r=0
    · obtain rfl:k=2:=by omega
      have b2:((r:Int) != 0)=false:=by simp;omega
      clear hk c1 c2 hq' hr'
      go_enter Tryz.func127,Tryz.ntmps127
      go_wp2
      go_ret
      exact ⟨rfl,rfl⟩
    · obtain rfl:k=3:=by omega
      have b2:((r:Int) != 0)=true:=by simp;omega
      clear hk c1 c2 hq' hr'
      go_enter Tryz.func127,Tryz.ntmps127
      go_wp2
      go_ret
      exact ⟨rfl,rfl⟩
  · have b1:((q:Int) == 2047)=false:=by rw [beq_eq_false_iff_ne];omega
    by_cases c2:q=0
    · have b3:((q:Int) == 0)=true:=by rw [beq_iff_eq];omega
      by_cases c3:r=0
      · obtain rfl:k=0:=by omega
        have b4:((r:Int) == 0)=true:=by rw [beq_iff_eq];omega
        clear hk c1 c2 c3 hq' hr'
        go_enter Tryz.func127,Tryz.ntmps127
        go_wp2
        go_ret
        exact ⟨rfl,rfl⟩
      · obtain rfl:k=1:=by omega
        have b4:((r:Int) == 0)=false:=by rw [beq_eq_false_iff_ne];omega
        clear hk c1 c2 c3 hq' hr'
        go_enter Tryz.func127,Tryz.ntmps127
        go_wp2
        go_ret
        exact ⟨rfl,rfl⟩
    · obtain rfl:k=1:=by omega
      have b3:((q:Int) == 0)=false:=by rw [beq_eq_false_iff_ne];omega
      clear hk c1 c2 hq' hr'
      go_enter Tryz.func127,Tryz.ntmps127
      go_wp2
      go_ret
      exact ⟨rfl,rfl⟩
theorem kind_nan (f:Nat):(fkind f == 3)=nanB f:=by
  have h:=fkind_cases f
  unfold nanB
  generalize fkind f=k at *
  generalize fmag f=m at *
  by_cases h1:9218868437227405312<m
  · rw [decide_eq_true h1,beq_iff_eq];omega
  · rw [decide_eq_false h1,beq_eq_false_iff_ne];omega
set_option maxRecDepth 100000 in
theorem refNan_any (f:Nat) (hf:f<18446744073709551616) (b:Bool) (hb:nanB f=b) (w:World) :
    Calls Tryz.prog 85 #[.int .u64 (f:Int)] w fun e w'=>e=.returned (.bool b)∧w=w':=by
  have hk:=kind_nan f
  rw [hb] at hk
  have HK:=Lib.hid hk
  clear hk hb
  go_enter Tryz.func85,Tryz.ntmps85
  go_wp2_with fail
  refine (refKind_any f hf _).mono ?_
  rintro e w' ⟨rfl,rfl⟩
  go_wp2
  go_ret
  exact ⟨ret_bool HK.out,rfl⟩
set_option maxRecDepth 100000 in
theorem refMinus_any (f:Nat) (hf:f<18446744073709551616) (b:Bool) (hb:fneg f=b) (w:World) :
    Calls Tryz.prog 106 #[.int .u64 (f:Int)] w fun e w'=>e=.returned (.bool b)∧w=w':=by
  have ha:=and_sign hf
  rw [hb] at ha
  clear hb
  cases b
  all_goals
    unfold sgz at ha
    simp only [if_true,Bool.false_eq_true,if_false] at ha
    go_enter Tryz.func106,Tryz.ntmps106
    go_wp2
    go_ret
    exact ⟨ret_bool (by first | rfl | decide | simp),rfl⟩
set_option maxRecDepth 100000 in
theorem refKey_any (f:Nat) (hf:f<18446744073709551616) (r:Int) (hr:frank f=r) (w:World) :
    Calls Tryz.prog 86 #[.int .u64 (f:Int)] w fun e w'=>e=.returned (.int .i64 r)∧w=w':=by
  have ha:=andNot_sign hf
  have hm:=fmag_lt f
  have hp:=f_parts hf
  unfold frank at hr
  cases hn:fneg f
  · rw [hn] at hr hp
    have C:=Lib.hid (refMinus_any f hf false hn)
    simp only [Bool.false_eq_true,if_false] at hr
    have hp:f=fmag f:=by unfold sgz at hp;simpa using hp
    have hv:(f:Int)=r:=by rw [←hr,←hp]
    have hr0:0≤r:=by omega
    have hr1:r<9223372036854775808:=by omega
    rw [hv] at C ⊢
    clear ha hm hp hr hn hf hv
    go_enter Tryz.func86,Tryz.ntmps86
    go_wp2_with fail
    refine (C.out _).mono ?_
    rintro e w' ⟨rfl,rfl⟩
    go_wp2
    go_ret
    exact ⟨rfl,rfl⟩
  · rw [hn] at hr
    have C:=Lib.hid (refMinus_any f hf true hn)
    simp only [if_true] at hr
    subst hr
    generalize fmag f=m at *
    clear hp hn hf
    go_enter Tryz.func86,Tryz.ntmps86
    go_wp2_with fail
    refine (C.out _).mono ?_
    rintro e w' ⟨rfl,rfl⟩
    go_wp2
    go_ret
    exact ⟨ret_int (by first | rfl | simp | (simp;omega)),rfl⟩
set_option maxRecDepth 100000 in
set_option maxHeartbeats 2000000 in
theorem refFCmp_any (a b:Nat) (ha:a<18446744073709551616) (hb:b<18446744073709551616) (s:Int) (ok:Bool) (h:FcmpOut a b s ok) (w:World) :
    Calls Tryz.prog 36 #[.int .u64 (a:Int),.int .u64 (b:Int)] w fun e w'=>e=.returned (.tuple #[.int .i64 s,.bool ok])∧Ext w w':=by
  unfold FcmpOut at h
  obtain ⟨na,hna⟩:∃ na,nanB a=na:=⟨_,rfl⟩
  obtain ⟨nb,hnb⟩:∃ nb,nanB b=nb:=⟨_,rfl⟩
  have CA:=Lib.hid (refNan_any a ha na hna)
  have CB:=Lib.hid (refNan_any b hb nb hnb)
  obtain ⟨x,hx⟩:∃ x,frank a=x:=⟨_,rfl⟩
  obtain ⟨y,hy⟩:∃ y,frank b=y:=⟨_,rfl⟩
  have KA:=Lib.hid (refKey_any a ha x hx)
  have KB:=Lib.hid (refKey_any b hb y hy)
  rw [hna,hnb,hx,hy] at h
  clear hna hnb hx hy ha hb
  cases na with
  | true =>
    simp only [Bool.true_or,if_true] at h
    obtain ⟨rfl,rfl⟩:=h
    go_enter Tryz.func36,Tryz.ntmps36
    go_wp2_with fail
    refine (CA.out _).mono ?_
    rintro e w' ⟨rfl,rfl⟩
    go_wp2
    go_ret2
    exact ⟨rfl,Below.refl _ _⟩
  | false =>
    cases nb with
    | true =>
      simp only [Bool.false_or,if_true] at h
      obtain ⟨rfl,rfl⟩:=h
      go_enter Tryz.func36,Tryz.ntmps36
      go_wp2_with fail
      refine (CA.out _).mono ?_
      rintro e w' ⟨rfl,rfl⟩
      go_wp2_with fail
      refine (CB.out _).mono ?_
      rintro e w' ⟨rfl,rfl⟩
      go_wp2
      go_ret2
      exact ⟨rfl,Below.refl _ _⟩
    | false =>
      simp only [Bool.or_self,Bool.false_eq_true,if_false] at h
      obtain ⟨hs,rfl⟩:=h
      obtain ⟨c,d,e⟩ | ⟨c,d,e⟩ | ⟨c,d,e⟩:(x<y∧¬ y<x∧s = -1)∨(¬ x<y∧y<x∧s=1)∨(¬ x<y∧¬ y<x∧s=0):=by
        rw [hs];unfold sgn3;split
        · omega
        · split <;> omega
      all_goals
        subst e
        clear hs
        go_enter Tryz.func36,Tryz.ntmps36
        go_wp2_with fail
        refine (CA.out _).mono ?_
        rintro e w' ⟨rfl,rfl⟩
        go_wp2_with fail
        refine (CB.out _).mono ?_
        rintro e w' ⟨rfl,rfl⟩
        go_wp2_with (first | (go_at_call 86;(with_reducible refine (KA.out _).mono ?_);rintro e w' ⟨rfl,rfl⟩) | (go_at_call 86;(with_reducible refine (KB.out _).mono ?_);rintro e w' ⟨rfl,rfl⟩))
        go_ret2
        exact ⟨rfl,Below.refl _ _⟩
theorem sq_nonneg (x:Int):0≤x*x:=by
  rcases Int.le_total 0 x with h | h
  · exact Int.mul_nonneg h h
  · exact Int.mul_nonneg_of_nonpos_of_nonpos h h
theorem sq_sub (a b:Int):(a - b)*(a - b)=a*a - 2*(a*b)+b*b:=by
  rw [Int.sub_mul,Int.mul_sub,Int.mul_sub,Int.mul_comm b a];omega
theorem sq_add (a b:Int):(a+b)*(a+b)=a*a+2*(a*b)+b*b:=by
  rw [Int.add_mul,Int.mul_add,Int.mul_add,Int.mul_comm b a];omega
open Go.RowKit
theorem blen_spec {a:Nat} (h:a≠0):∃ l,blen a=l+1∧2^l≤a∧a<2^(l+1):=by
  refine ⟨Nat.log2 a,by unfold blen;rw [if_neg h],Nat.log2_self_le h,Nat.lt_log2_self⟩
theorem pow_limbs {k e:Nat} (h:k≤32*e):2^k≤4294967296^e:=by
  rw [show 4294967296^e=2^(32*e) by rw [Nat.pow_mul]]
  exact Nat.pow_le_pow_right (by omega) h
def tzf (a:Nat):Nat:=if h:a=0∨a % 2=1 then 0 else tzf (a / 2)+1
termination_by a
decreasing_by omega
theorem tzf_isTz (a:Nat):IsTz a (tzf a):=by
  induction a using Nat.strongRecOn with
  | _ a ih =>
    rw [tzf]
    by_cases h0:a=0
    · rw [dif_pos (Or.inl h0)];exact Or.inl ⟨h0,rfl⟩
    · by_cases h1:a % 2=1
      · rw [dif_pos (Or.inr h1)];exact Or.inr ⟨h0,a / 2,by rw [Nat.pow_zero];omega⟩
      · rw [dif_neg (by omega)]
        rcases ih (a / 2) (by omega) with ⟨h2,_⟩ | ⟨_,m,hm⟩
        · omega
        · refine Or.inr ⟨h0,m,?_⟩
          rw [Nat.pow_succ,Nat.mul_assoc,Nat.mul_left_comm,←hm];omega
theorem tzf_of {a t:Nat} (h:IsTz a t):t=tzf a:=h.unique (tzf_isTz a)
theorem tzf_zero:tzf 0=0:=by rw [tzf];simp
theorem tzf_odd {a:Nat} (h:a % 2=1):tzf a=0:=by rw [tzf];simp [h]
theorem tzf_mul {a:Nat} (h:a≠0) (k:Nat):tzf (a*2^k)=tzf a+k:=((tzf_of ((tzf_isTz a).mul h k))).symm
theorem two_pos (k:Nat):(0:Int)<2^k:=Int.pow_pos (by omega)
theorem natAbs_shift (x:Int) (k:Nat):(x*2^k).natAbs=x.natAbs*2^k:=by rw [Int.natAbs_mul,Int.natAbs_pow];rfl
theorem mul_two_ne {x:Int} (h:x≠0) (k:Nat):x*2^k≠0:=Int.mul_ne_zero h (Int.ne_of_gt (two_pos k))
theorem odd_part {x:Int} (h:x≠0):∃ m,x=m*2^tzf x.natAbs∧m.natAbs % 2=1∧x / 2^tzf x.natAbs=m:=by
  rcases tzf_isTz x.natAbs with ⟨h0,_⟩ | ⟨_,q,hq⟩
  · omega
  · generalize tzf x.natAbs=t at *
    have hp:=two_pos t
    rcases Int.lt_or_gt_of_ne h with hx | hx
    · have e:x=(-(2*(q:Int)+1))*2^t:=by
        have:x = -(x.natAbs:Int):=by omega
        rw [this,hq];push_cast;rw [Int.neg_mul,Int.mul_comm]
      exact ⟨_,e,by omega,by rw [e,Int.mul_ediv_cancel _ (Int.ne_of_gt hp)]⟩
    · have e:x=(2*(q:Int)+1)*2^t:=by
        have:x=(x.natAbs:Int):=by omega
        rw [this,hq];push_cast;rw [Int.mul_comm]
      exact ⟨_,e,by omega,by rw [e,Int.mul_ediv_cancel _ (Int.ne_of_gt hp)]⟩
abbrev Dy:=Option (Int × Int)
def dmk (x e:Int):Dy :=
  if x=0 then some (0,0) else
  if e < -65536 - (tzf x.natAbs:Int)∨65536 - (blen x.natAbs:Int)<e then none else some (x / 2^tzf x.natAbs,e+tzf x.natAbs)
theorem dmk_zero (e:Int):dmk 0 e=some (0,0):=by simp [dmk]
theorem dmk_shift (x e:Int) (k:Nat):dmk (x*2^k) e=dmk x (e+k):=by
  by_cases h:x=0
  · subst h;simp [dmk]
  · have hn:x.natAbs≠0:=by omega
    unfold dmk
    rw [if_neg h,if_neg (mul_two_ne h k),natAbs_shift,tzf_mul hn,blen_mul hn]
    have e1:x*2^k / 2^(tzf x.natAbs+k)=x / 2^tzf x.natAbs:=by
      rw [Int.pow_add,Int.mul_ediv_mul_of_pos_left _ _ (two_pos k)]
    rw [e1]
    by_cases hc:e < -65536 - ((tzf x.natAbs+k:Nat):Int)∨65536 - ((blen x.natAbs+k:Nat):Int)<e
    · rw [if_pos hc,if_pos (by omega)]
    · rw [if_neg hc,if_neg (by omega)]
      congr 2;omega
def Nd:Dy→Prop
  | none=>True
  | some (m,e)=>(m=0∧e=0)∨(m.natAbs % 2=1∧-65536≤e∧e+blen m.natAbs≤65536)
theorem dmk_nd (x e:Int):Nd (dmk x e):=by
  unfold dmk
  by_cases h:x=0
  · rw [if_pos h];exact Or.inl ⟨rfl,rfl⟩
  · rw [if_neg h]
    split
    · trivial
    · rename_i hc
      obtain ⟨m,h1,h2,h3⟩:=odd_part h
      refine Or.inr ?_
      rw [h3]
      have hb:blen x.natAbs=blen m.natAbs+tzf x.natAbs:=by
        conv=>lhs;rw [h1]
        rw [natAbs_shift,blen_mul (by omega)]
      refine ⟨h2,by omega,by omega⟩
theorem dmk_norm {m e:Int} (h:Nd (some (m,e))):dmk m e=some (m,e):=by
  rcases h with ⟨rfl,rfl⟩ | ⟨h1,h2,h3⟩
  · exact dmk_zero 0
  · unfold dmk
    rw [if_neg (by omega),tzf_odd h1,if_neg (by omega)]
    simp
def sc:Dy→Int
  | none=>0
  | some (m,e)=>m*2^(e+65536).toNat
def dadd:Dy→Dy→Dy
  | some p,some q=>dmk (sc (some p)+sc (some q)) (-65536)
  | _,_=>none
def dmul:Dy→Dy→Dy
  | some p,some q=>dmk (p.1*q.1) (p.2+q.2)
  | _,_=>none
def dneg:Dy→Dy
  | some p=>some (-p.1,p.2)
  | none=>none
theorem dneg_nd {d:Dy} (h:Nd d):Nd (dneg d):=by
  cases d with
  | none=>trivial
  | some p =>
    rcases h with ⟨h1,h2⟩ | ⟨h1,h2,h3⟩
    · exact Or.inl ⟨by simp [h1],h2⟩
    · exact Or.inr ⟨by simpa using h1,h2,by simpa using h3⟩
def Is (d:Dy) (S:Nat) (N:Int):Prop:=∃ m e,d=some (m,e)∧Nd d∧0≤e+S∧N=m*2^(e+S).toNat
theorem Is.nd {d:Dy} {S:Nat} {N:Int} (h:Is d S N):Nd d:=by obtain ⟨_,_,_,h,_⟩:=h;exact h
theorem Is.mk {d:Dy} {S:Nat} {N:Int} (h:Is d S N):d=dmk N (-S):=by
  obtain ⟨m,e,rfl,h1,h2,rfl⟩:=h
  rw [dmk_shift,show (-(S:Int))+(e+S).toNat=e by omega,dmk_norm h1]
theorem Is.unique {d d':Dy} {S:Nat} {N:Int} (h:Is d S N) (h':Is d' S N):d=d':=by rw [h.mk,h'.mk]
theorem Is.up {d:Dy} {S:Nat} {N:Int} (h:Is d S N) (k:Nat):Is d (S+k) (N*2^k):=by
  obtain ⟨m,e,h0,h1,h2,rfl⟩:=h
  refine ⟨m,e,h0,h1,by omega,?_⟩
  rw [show (e+((S+k:Nat):Int)).toNat=(e+S).toNat+k by omega,Int.pow_add,Int.mul_assoc]
theorem blen_le_of_lt {a k:Nat} (h:a<2^k):blen a≤k:=by
  by_cases h0:a=0
  · subst h0;simp [blen]
  · obtain ⟨l,h1,h2,_⟩:=blen_spec h0
    rw [h1]
    have:2^l<2^k:=by omega
    exact (Nat.pow_lt_pow_iff_right (by omega)).1 this
theorem Is.of_dmk {N:Int} {S B:Nat} (hS:S≤65536) (hN:N.natAbs<2^B) (hB:B≤65536):Is (dmk N (-S)) S N:=by
  by_cases h:N=0
  · subst h;rw [dmk_zero];exact ⟨0,0,rfl,Or.inl ⟨rfl,rfl⟩,by omega,by simp⟩
  · have hb:=blen_le_of_lt hN
    have hnd:=dmk_nd N (-S)
    obtain ⟨m,h1,h2,h3⟩:=odd_part h
    have e:dmk N (-(S:Int))=some (m,-(S:Int)+(tzf N.natAbs:Int)):=by
      unfold dmk
      rw [if_neg h,if_neg (by omega),h3]
    rw [e] at hnd ⊢
    refine ⟨_,_,rfl,hnd,by omega,?_⟩
    rw [show (-(S:Int)+(tzf N.natAbs:Int)+S).toNat=tzf N.natAbs by omega]
    exact h1
theorem sc_is {d:Dy} {S:Nat} {N:Int} (h:Is d S N) (hS:S≤65536):sc d=N*2^(65536 - S):=by
  obtain ⟨m,e,rfl,h1,h2,rfl⟩:=h
  unfold sc
  simp only
  rw [show (e+65536).toNat=(e+S).toNat+(65536 - S) by omega,Int.pow_add,Int.mul_assoc]
theorem Is.add {d d':Dy} {S:Nat} {N M:Int} (h:Is d S N) (h':Is d' S M) (hS:S≤65536) {B:Nat} (hb:(N+M).natAbs<2^B) (hB:B≤65536):Is (dadd d d') S (N+M):=by
  have e:dadd d d'=dmk (N+M) (-S):=by
    have a:=sc_is h hS
    have b:=sc_is h' hS
    obtain ⟨m,x,rfl,_⟩:=h
    obtain ⟨n,y,rfl,_⟩:=h'
    show dmk (sc _+sc _) _=_
    rw [a,b,←Int.add_mul,dmk_shift]
    congr 1;omega
  rw [e]
  exact Is.of_dmk hS hb hB
theorem Is.neg {d:Dy} {S:Nat} {N:Int} (h:Is d S N):Is (dneg d) S (-N):=by
  have hd:=dneg_nd h.nd
  obtain ⟨m,e,rfl,h1,h2,rfl⟩:=h
  exact ⟨-m,e,rfl,hd,h2,by rw [Int.neg_mul]⟩
theorem Is.mul {d d':Dy} {S T:Nat} {N M:Int} (h:Is d S N) (h':Is d' T M) (hS:S+T≤65536) {B:Nat} (hb:(N*M).natAbs<2^B) (hB:B≤65536):Is (dmul d d') (S+T) (N*M):=by
  have e:dmul d d'=dmk (N*M) (-((S+T:Nat):Int)):=by
    obtain ⟨m,x,rfl,_,h2,rfl⟩:=h
    obtain ⟨n,y,rfl,_,h2',rfl⟩:=h'
    show dmk (m*n) (x+y)=_
    have:m*2^(x+S).toNat*(n*2^(y+T).toNat)=m*n*2^((x+S).toNat+(y+T).toNat):=by
      rw [Int.pow_add,Int.mul_assoc,Int.mul_left_comm (2^(x+S).toNat),←Int.mul_assoc]
    rw [this,dmk_shift]
    congr 1;omega
  rw [e]
  exact Is.of_dmk hS hb hB
theorem Is.zero {d:Dy} {S:Nat} {N:Int} (h:Is d S N):(∃ m e,d=some (m,e)∧(m=0↔N=0)∧(m<0↔N<0)):=by
  obtain ⟨m,e,rfl,h1,h2,rfl⟩:=h
  have hp:=two_pos (e+S).toNat
  refine ⟨m,e,rfl,⟨fun h=>by rw [h,Int.zero_mul],fun h=>?_⟩,⟨fun h=>Int.mul_neg_of_neg_of_pos h hp,fun h=>?_⟩⟩
  · rcases Int.mul_eq_zero.1 h with h | h <;> omega
  · rcases Int.lt_or_le m 0 with h3 | h3
    · exact h3
    · have:=Int.mul_nonneg h3 (Int.le_of_lt hp);omega
open Go.RowKit
def DBox (W:World) (g:Nat) (bb nb:Bool) (ao:Option Addr) (n ca:Nat) (e:Int):Prop:=W.heap[g]?=some (.cells #[.bool bb,.bool nb,.slice ao n ca,.int .i64 e] 38 (0,0))
section
variable {W w w':World} {g:Nat} {bb nb:Bool} {ao:Option Addr} {n ca:Nat} {e:Int}
theorem DBox.c0 (h:DBox W g bb nb ao n ca e):W.cell? ⟨g,0,none⟩=some (.bool bb):=by rw [cell_of_row W g 0 _ _ _ h];rfl
theorem DBox.c1 (h:DBox W g bb nb ao n ca e):W.cell? ⟨g,1,none⟩=some (.bool nb):=by rw [cell_of_row W g 1 _ _ _ h];rfl
theorem DBox.c2 (h:DBox W g bb nb ao n ca e):W.cell? ⟨g,2,none⟩=some (.slice ao n ca):=by rw [cell_of_row W g 2 _ _ _ h];rfl
theorem DBox.c3 (h:DBox W g bb nb ao n ca e):W.cell? ⟨g,3,none⟩=some (.int .i64 e):=by rw [cell_of_row W g 3 _ _ _ h];rfl
theorem DBox.f (h:DBox W g bb nb ao n ca e) (o:Nat):W.frozen? ⟨g,o,none⟩=false:=by
  unfold DBox at h;simp [World.frozen?,h]
theorem DBox.lt (h:DBox w g bb nb ao n ca e):g<w.heap.size:=lt_of_cell h.c0
theorem DBox.kept {B:Nat} (h:DBox w g bb nb ao n ca e) (hb:Below B w w') (hg:g<B):DBox w' g bb nb ao n ca e:=by
  unfold DBox;rw [hb.block g hg];exact h
theorem DBox.below (h:DBox w g bb nb ao n ca e) (hb:Below w.heap.size w w'):DBox w' g bb nb ao n ca e:=h.kept hb h.lt
theorem DBox.ext (h:DBox w g bb nb ao n ca e) (hb:Ext w w'):DBox w' g bb nb ao n ca e:=h.below hb
theorem DBox.only {k:Nat} (h:DBox w g bb nb ao n ca e) (ho:Only k w w') (hne:g≠k):DBox w' g bb nb ao n ca e:=by
  unfold DBox;rw [ho.block g hne];exact h
end
theorem DBox.new (w:World) (bb nb:Bool) (ao:Option Addr) (n ca:Nat) (e:Int):DBox (w.alloc (.cells #[.bool bb,.bool nb,.slice ao n ca,.int .i64 e] 38)) w.heap.size bb nb ao n ca e:=heap_alloc_new w _
theorem DBox.stored {w:World} {g:Nat} {bb nb:Bool} {ao:Option Addr} {n ca:Nat} {e:Int} (h:DBox w g bb nb ao n ca e) (mbb mb:Bool) (bo:Option Addr) (m cb:Nat) (f:Int) :
    DBox ((((w.setCell ⟨g,0,none⟩ (.bool mbb)).setCell ⟨g,1,none⟩ (.bool mb)).setCell ⟨g,2,none⟩ (.slice bo m cb)).setCell ⟨g,3,none⟩ (.int .i64 f)) g mbb mb bo m cb f:=by
  unfold DBox at h ⊢
  simp [World.setCell,Array.getElem?_modify,h]
theorem DBox.stored1 {w:World} {g:Nat} {bb nb:Bool} {ao:Option Addr} {n ca:Nat} {e:Int} (h:DBox w g bb nb ao n ca e) (mb:Bool) :
    DBox (w.setCell ⟨g,1,none⟩ (.bool mb)) g bb mb ao n ca e:=by
  unfold DBox at h ⊢
  simp [World.setCell,Array.getElem?_modify,h]
theorem only_set4 (w:World) (g:Nat) (u v x y:Value):Only g w ((((w.setCell ⟨g,0,none⟩ u).setCell ⟨g,1,none⟩ v).setCell ⟨g,2,none⟩ x).setCell ⟨g,3,none⟩ y):=((((Only.refl g w).setCell _ _).setCell _ _).setCell _ _).setCell _ _
theorem At.only_dbox {w w':World} {g:Nat} {bb nb:Bool} {ao ro:Option Addr} {n cap:Nat} {f:Int} {zs:List Int} (hx:DBox w g bb nb ao n cap f) (h:At w ro zs) (ho:Only g w w'):At w' ro zs:=by
  intro h0
  obtain ⟨b,off,e,hc⟩:=h h0
  refine ⟨b,off,e,fun j hj=>?_⟩
  have hne:b≠g:=by
    rintro rfl
    have:=hc j hj
    rw [cell_of_row w b (off+j) _ _ _ hx] at this
    match off+j,this with
    | 0,this=>simp at this
    | 1,this=>simp at this
    | 2,this=>simp at this
    | 3,this=>simp at this
    | k+4,this=>simp at this
  rw [World.cell?_of_block (w:=w) (ho.block b hne)]
  exact hc j hj
theorem Sl.only_dbox {w w':World} {g:Nat} {bb nb:Bool} {ao ro:Option Addr} {n cap k cr:Nat} {f:Int} {zs:List Int} (h:Sl w ro k cr zs) (hx:DBox w g bb nb ao n cap f) (ho:Only g w w'):Sl w' ro k cr zs :=
  ⟨h.len,h.cap,h.big,h.wf,h.cells.only_dbox hx ho⟩
theorem Bn.only_dbox {w w':World} {g:Nat} {bb nb mb:Bool} {ao ro:Option Addr} {n cap k cr:Nat} {f x:Int} (h:Bn w mb ro k cr x) (hx:DBox w g bb nb ao n cap f) (ho:Only g w w'):Bn w' mb ro k cr x :=
  ⟨h.neg,h.sl.only_dbox hx ho⟩
theorem Bg.only_dbox {w w':World} {g:Nat} {bb nb mb:Bool} {ao ro:Option Addr} {n cap k cr:Nat} {f x:Int} (h:Bg w mb ro k cr x) (hx:DBox w g bb nb ao n cap f) (ho:Only g w w'):Bg w' mb ro k cr x:=by
  obtain ⟨⟨zs,h1,h2⟩,h3⟩:=h
  exact ⟨⟨zs,h1.only_dbox hx ho,h2⟩,h3⟩
theorem dbox_new (w:World) (bb nb:Bool) (ao:Option Addr) (n ca:Nat) (e:Int) :
    ∃ W,W=w.alloc (.cells #[.bool bb,.bool nb,.slice ao n ca,.int .i64 e] 38)∧Below w.heap.size w W∧DBox W w.heap.size bb nb ao n ca e∧w.heap.size+1≤W.heap.size :=
  ⟨_,rfl,(Below.refl _ w).alloc (Nat.le_refl _) _,DBox.new w bb nb ao n ca e,by simp⟩
theorem boxes_bd (w:World) (nb:Bool) (ao:Option Addr) (n cap:Nat) :
    ∃ W,W=(w.alloc (.cells #[.bool nb,.slice ao n cap] 36)).alloc (.cells #[.bool false,.bool false,.slice none 0 0,.int .i64 0] 38)∧Below w.heap.size w W∧Box W w.heap.size nb ao n cap∧DBox W (w.heap.size+1) false false none 0 0 0∧w.heap.size+2≤W.heap.size:=by
  refine ⟨_,rfl,((Below.refl _ w).alloc (Nat.le_refl _) _).alloc (by simp) _,?_,?_,by simp⟩
  · exact (Box.new w nb ao n cap).below ((Below.refl _ _).alloc (Nat.le_refl _) _)
  · have:=DBox.new (w.alloc (.cells #[.bool nb,.slice ao n cap] 36)) false false none 0 0 0
    simpa using this
theorem boxes_dd (w:World) (bb nb:Bool) (ao:Option Addr) (n cap:Nat) (e:Int) :
    ∃ W,W=(w.alloc (.cells #[.bool bb,.bool nb,.slice ao n cap,.int .i64 e] 38)).alloc (.cells #[.bool false,.bool false,.slice none 0 0,.int .i64 0] 38)∧Below w.heap.size w W∧DBox W w.heap.size bb nb ao n cap e∧DBox W (w.heap.size+1) false false none 0 0 0∧w.heap.size+2≤W.heap.size:=by
  refine ⟨_,rfl,((Below.refl _ w).alloc (Nat.le_refl _) _).alloc (by simp) _,?_,?_,by simp⟩
  · exact (DBox.new w bb nb ao n cap e).below ((Below.refl _ _).alloc (Nat.le_refl _) _)
  · have:=DBox.new (w.alloc (.cells #[.bool bb,.bool nb,.slice ao n cap,.int .i64 e] 38)) false false none 0 0 0
    simpa using this
theorem boxes_ddd (w:World) (bb nb:Bool) (ao:Option Addr) (n cap:Nat) (e:Int) (cb mb:Bool) (bo:Option Addr) (m cap':Nat) (f:Int) :
    ∃ W,W=((w.alloc (.cells #[.bool bb,.bool nb,.slice ao n cap,.int .i64 e] 38)).alloc (.cells #[.bool cb,.bool mb,.slice bo m cap',.int .i64 f] 38)).alloc (.cells #[.bool false,.bool false,.slice none 0 0,.int .i64 0] 38)∧Below w.heap.size w W ∧
      DBox W w.heap.size bb nb ao n cap e∧DBox W (w.heap.size+1) cb mb bo m cap' f∧DBox W (w.heap.size+1+1) false false none 0 0 0∧w.heap.size+3≤W.heap.size:=by
  refine ⟨_,rfl,(((Below.refl _ w).alloc (Nat.le_refl _) _).alloc (by simp) _).alloc (by simp;omega) _,?_,?_,?_,by simp⟩
  · exact (DBox.new w bb nb ao n cap e).below (((Below.refl _ _).alloc (Nat.le_refl _) _).alloc (by simp) _)
  · have:=(DBox.new (w.alloc (.cells #[.bool bb,.bool nb,.slice ao n cap,.int .i64 e] 38)) cb mb bo m cap' f).below ((Below.refl _ _).alloc (Nat.le_refl _) (.cells #[.bool false,.bool false,.slice none 0 0,.int .i64 0] 38))
    simpa using this
  · have:=DBox.new ((w.alloc (.cells #[.bool bb,.bool nb,.slice ao n cap,.int .i64 e] 38)).alloc (.cells #[.bool cb,.bool mb,.slice bo m cap',.int .i64 f] 38)) false false none 0 0 0
    simpa using this
def dm (d:Dy):Int:=(d.getD (0,0)).1
def dx (d:Dy):Int:=(d.getD (0,0)).2
def Dn (w:World) (v:Value) (d:Dy):Prop:=Nd d∧∃ nb ao n ca,v=.agg #[.bool d.isNone,.bool nb,.slice ao n ca,.int .i64 (dx d)]∧Bn w nb ao n ca (dm d)
theorem cast2 (c s k:Nat):((c^s*2^k:Nat):Int)=(c:Int)^s*2^k:=by push_cast;rfl
theorem tzf_lt {a:Nat} (h:a≠0):tzf a<blen a:=by
  rcases tzf_isTz a with ⟨h0,_⟩ | ⟨_,m,hm⟩
  · exact absurd h0 h
  · obtain ⟨l,h1,h2,h3⟩:=blen_spec h
    rw [h1]
    have h4:2^tzf a*1≤2^tzf a*(2*m+1):=Nat.mul_le_mul_left _ (by omega)
    rw [←hm] at h4
    have:2^tzf a<2^(l+1):=by omega
    exact (Nat.pow_lt_pow_iff_right (by omega)).1 this
theorem dn_bad (w:World):Dn w (.agg #[.bool true,.bool false,.slice none 0 0,.int .i64 0]) none :=
  ⟨trivial,false,none,0,0,rfl,⟨rfl,by simp [dm,limbs_zero];exact Sl.nil w⟩⟩
theorem dn_zero (w:World):Dn w (.agg #[.bool false,.bool false,.slice none 0 0,.int .i64 0]) (some (0,0)) :=
  ⟨Or.inl ⟨rfl,rfl⟩,false,none,0,0,rfl,⟨rfl,by simp [dm,limbs_zero];exact Sl.nil w⟩⟩
theorem Dn.ext {w w':World} {v:Value} {d:Dy} (h:Dn w v d) (he:Ext w w'):Dn w' v d:=by
  obtain ⟨h0,nb,ao,n,ca,h1,h2⟩:=h
  exact ⟨h0,nb,ao,n,ca,h1,h2.below he⟩
theorem Dn.only_dbox {w w':World} {g:Nat} {bb nb:Bool} {ao:Option Addr} {n cap:Nat} {f:Int} {v:Value} {d:Dy} (h:Dn w v d) (hx:DBox w g bb nb ao n cap f) (ho:Only g w w'):Dn w' v d:=by
  obtain ⟨h0,nb,ao,n,ca,h1,h2⟩:=h
  exact ⟨h0,nb,ao,n,ca,h1,h2.only_dbox hx ho⟩
theorem dn_stored {w:World} {g B:Nat} {bb nb mbb mb:Bool} {ao bo:Option Addr} {n ca m cb:Nat} {e f:Int} {d:Dy} (hx:DBox w g bb nb ao n ca e) (h:Dn w (.agg #[.bool mbb,.bool mb,.slice bo m cb,.int .i64 f]) d) (w0:World) (hb:Below B w0 w) (hg:B≤g) :
    Dn ((((w.setCell ⟨g,0,none⟩ (.bool mbb)).setCell ⟨g,1,none⟩ (.bool mb)).setCell ⟨g,2,none⟩ (.slice bo m cb)).setCell ⟨g,3,none⟩ (.int .i64 f)) (.agg #[.bool mbb,.bool mb,.slice bo m cb,.int .i64 f]) d ∧
    Below B w0 ((((w.setCell ⟨g,0,none⟩ (.bool mbb)).setCell ⟨g,1,none⟩ (.bool mb)).setCell ⟨g,2,none⟩ (.slice bo m cb)).setCell ⟨g,3,none⟩ (.int .i64 f)) :=
  ⟨h.only_dbox hx (only_set4 _ _ _ _ _ _),hb.trans ((only_set4 _ _ _ _ _ _).below hg)⟩
end Go.Proofs.YtkomhemjodbkpaaGreatDoor
