import Derived.Test.YtkomhemjodbkpaaGreatDoorIExLawU1
import Derived.Shelf.Small.Bits
import Derived.Shelf.Bits.Mul64
import Derived.Shelf.Spec.BitsCarry
import Derived.Test.YtkomhemjodbkpaaGreatDoorProg
namespace Go.Proofs.YtkomhemjodbkpaaGreatDoor
def upc (neg:Bool) (mode:Int) (kept rest:Nat):Bool :=
  if mode=1 then neg&&decide (rest≠0) else if mode=2 then !neg&&decide (rest≠0) else if mode=3 then false
  else decide (9223372036854775808<rest)||decide (rest=9223372036854775808)&&decide (kept % 2=1)
def stick (h:Nat) (s:Bool):Nat:=if s then h / 2*2+1 else h
theorem rest_eq {h d:Nat} (hd:d≤64):h*2^(64 - d) % 18446744073709551616=h % 2^d*2^(64 - d):=by
  have e:(18446744073709551616:Nat)=2^d*2^(64 - d):=by rw [←Nat.pow_add,show d+(64 - d)=64 by omega]
  rw [e,Nat.mul_mod_mul_right]
theorem stick_div {h d:Nat} (s:Bool) (hd:1≤d):stick h s / 2^d=h / 2^d:=by
  unfold stick
  cases s with
  | false=>rfl
  | true =>
    obtain ⟨k,rfl⟩:∃ k,d=k+1:=⟨d - 1,by omega⟩
    rw [if_pos rfl,Nat.pow_succ',←Nat.div_div_eq_div_mul,←Nat.div_div_eq_div_mul]
    congr 1
    omega
theorem stick_mod {h d:Nat} (s:Bool) (hd:1≤d):stick h s % 2^d=stick (h % 2^d) s:=by
  unfold stick
  cases s with
  | false=>rfl
  | true =>
    obtain ⟨k,rfl⟩:∃ k,d=k+1:=⟨d - 1,by omega⟩
    rw [if_pos rfl,if_pos rfl,Nat.pow_succ',Nat.mod_mul,Nat.mod_mul]
    have e1:(h / 2*2+1) % 2=1:=by omega
    have e2:(h / 2*2+1) / 2=h / 2:=by omega
    have e3:(h % 2+2*(h / 2 % 2^k)) / 2=h / 2 % 2^k:=by omega
    rw [e1,e2,e3]
    omega
theorem stick_zero {r:Nat} (s:Bool):stick r s≠0↔r≠0∨s=true:=by
  unfold stick
  cases s <;> simp
theorem up_any (r lo M c:Nat) (t s:Bool) (hc:0<c) (hM:0<M) (hs:(t||decide (lo≠0))=s):decide (stick r s*c≠0)=(decide (r*M+lo≠0)||t):=by
  have f1:(stick r s*c≠0)↔stick r s≠0:=by
    constructor
    · intro h1 h2;exact h1 (by rw [h2,Nat.zero_mul])
    · intro h1 h2;rcases Nat.mul_eq_zero.1 h2 with h3 | h3
      · exact h1 h3
      · omega
  have f2:(r*M+lo≠0)↔r≠0∨lo≠0:=by
    constructor
    · intro h1
      by_cases hr:r=0
      · right;rw [hr,Nat.zero_mul,Nat.zero_add] at h1;exact h1
      · left;exact hr
    · intro h1 h2
      have h3:r*M=0∧lo=0:=by omega
      rcases Nat.mul_eq_zero.1 h3.1 with h4 | h4
      · rcases h1 with h1 | h1
        · exact h1 h4
        · exact h1 h3.2
      · omega
  have d1:decide (stick r s*c≠0)=decide (r≠0∨s=true):=decide_eq_decide.2 (f1.trans (stick_zero s))
  have d2:decide (r*M+lo≠0)=decide (r≠0∨lo≠0):=decide_eq_decide.2 f2
  rw [d1,d2]
  subst hs
  cases t <;> simp
theorem up_half (r lo M H q c:Nat) (K t s:Bool) (hc:0<c) (hM:0<M) (hlo:lo<M) (hs:(t||decide (lo≠0))=s) (hH:H=2*q*c) :
    (decide (H<stick r s*c)||decide (stick r s*c=H)&&K)=(decide (4*q*M<2*(r*M+lo))||decide (4*q*M=2*(r*M+lo))&&(t||K)):=by
  have f2:(H<stick r s*c)↔2*q<stick r s:=by
    rw [hH];exact Nat.mul_lt_mul_right hc
  have f3:(stick r s*c=H)↔stick r s=2*q:=by
    rw [hH];exact Nat.mul_right_cancel_iff hc
  have d2:decide (H<stick r s*c)=decide (2*q<stick r s):=decide_eq_decide.2 f2
  have d3:decide (stick r s*c=H)=decide (stick r s=2*q):=decide_eq_decide.2 f3
  rw [d2,d3]
  clear d2 d3 f2 f3
  have e1:4*q*M=2*(2*q*M):=by rw [←Nat.mul_assoc,←Nat.mul_assoc]
  rw [e1]
  rcases Nat.lt_trichotomy r (2*q) with h | h | h
  · have h2:r*M+M≤2*q*M:=by
      have:=Nat.mul_le_mul_right M (show r+1≤2*q from h)
      rwa [Nat.add_mul,Nat.one_mul] at this
    have k1:¬ 2*(2*q*M)<2*(r*M+lo):=by omega
    have k2:¬ 2*(2*q*M)=2*(r*M+lo):=by omega
    have k3:¬ 2*q<stick r s:=by unfold stick;split <;> omega
    have k4:¬ stick r s=2*q:=by unfold stick;split <;> omega
    rw [decide_eq_false k1,decide_eq_false k2,decide_eq_false k3,decide_eq_false k4]
    rfl
  · subst h
    have k1:(2*(2*q*M)<2*(2*q*M+lo))↔lo≠0:=by omega
    have k2:(2*(2*q*M)=2*(2*q*M+lo))↔lo=0:=by omega
    have k3:(2*q<stick (2*q) s)↔s=true:=by unfold stick;cases s <;> simp;omega
    have k4:(stick (2*q) s=2*q)↔s=false:=by unfold stick;cases s <;> simp;omega
    have d1:decide (2*(2*q*M)<2*(2*q*M+lo))=decide (lo≠0):=decide_eq_decide.2 k1
    have d2:decide (2*(2*q*M)=2*(2*q*M+lo))=decide (lo=0):=decide_eq_decide.2 k2
    have d3:decide (2*q<stick (2*q) s)=decide (s=true):=decide_eq_decide.2 k3
    have d4:decide (stick (2*q) s=2*q)=decide (s=false):=decide_eq_decide.2 k4
    rw [d1,d2,d3,d4]
    clear d1 d2 d3 d4 k1 k2 k3 k4
    subst hs
    rcases Nat.eq_zero_or_pos lo with hl | hl
    · subst hl;cases t <;> simp
    · have hl:lo≠0:=by omega
      cases t <;> simp [hl]
  · have h2:2*q*M+M≤r*M:=by
      have:=Nat.mul_le_mul_right M (show 2*q+1≤r from h)
      rwa [Nat.add_mul,Nat.one_mul] at this
    have k1:2*(2*q*M)<2*(r*M+lo):=by omega
    have k3:2*q<stick r s:=by unfold stick;split <;> omega
    rw [decide_eq_true k1,decide_eq_true k3]
    rfl
theorem upc_fup (neg:Bool) (mode:Int) {h lo d:Nat} (t:Bool) (kept:Nat) (hd:2≤d) (hd2:d≤64) (hlo:lo<18446744073709551616) :
    upc neg mode kept (stick h (t||decide (lo≠0))*2^(64 - d) % 18446744073709551616)=fup neg mode kept ((h*18446744073709551616+lo) % 2^(d+64)) (2^(d+64)) t:=by
  rw [rest_eq hd2,stick_mod _ (by omega)]
  have e1:(h*18446744073709551616+lo) % 2^(d+64)=h % 2^d*18446744073709551616+lo:=by
    rw [Nat.pow_add,Nat.mul_comm (2^d),show (2:Nat)^64=18446744073709551616 from rfl,Nat.mod_mul]
    rw [show (h*18446744073709551616+lo) % 18446744073709551616=lo by omega,show (h*18446744073709551616+lo) / 18446744073709551616=h by omega]
    rw [Nat.mul_comm,Nat.add_comm]
  rw [e1]
  have hp:0<2^(64 - d):=Nat.pow_pos (by omega)
  obtain ⟨q,hq⟩:∃ q:Nat,2^d=4*q:=⟨2^(d - 2),by rw [show (4:Nat)=2^2 from rfl,←Nat.pow_add,show 2+(d - 2)=d by omega]⟩
  have e2:(18446744073709551616:Nat)=4*q*2^(64 - d):=by rw [←hq,←Nat.pow_add,show d+(64 - d)=64 by omega]
  have e3:(2:Nat)^(d+64)=4*q*18446744073709551616:=by rw [Nat.pow_add,hq]
  rw [e3]
  generalize h % 2^d=r
  have e4:(9223372036854775808:Nat)=2*q*2^(64 - d):=by
    have:2*(2*q*2^(64 - d))=4*q*2^(64 - d):=by rw [←Nat.mul_assoc,←Nat.mul_assoc]
    omega
  generalize 2^(64 - d)=c at *
  obtain ⟨s,hs⟩:∃ s,(t||decide (lo≠0))=s:=⟨_,rfl⟩
  rw [hs]
  have g1:=up_any r lo 18446744073709551616 c t s hp (by decide) hs
  have g2:=up_half r lo 18446744073709551616 9223372036854775808 q c (decide (kept % 2=1)) t s hp (by decide) hlo hs e4
  unfold upc fup
  rw [g1,g2]
theorem fla_main (neg:Bool) {h lo d:Nat} {e:Int} (t:Bool) (mode:Int) (h0:9223372036854775808≤h) (h1:h<18446744073709551616) (hlo:lo<18446744073709551616)
    (htop:e+127≤1023) (hd:(d:Int)=max (e+75) (-1074) - e - 64) (hd2:d≤64) :
    fla neg (h*18446744073709551616+lo) e t mode=(max (e+75) (-1074)+1074).toNat*4503599627370496+stick h (t||decide (lo≠0)) / 2^d +
      (if upc neg mode (stick h (t||decide (lo≠0)) / 2^d) (stick h (t||decide (lo≠0))*2^(64 - d) % 18446744073709551616) then 1 else 0):=by
  have hl:Nat.log2 (h*18446744073709551616+lo)=127:=log2_of (by omega) (by omega)
  have hp:fplace (h*18446744073709551616+lo) e=max (e+75) (-1074):=by unfold fplace;rw [hl];omega
  unfold fla
  rw [hl,hp,if_neg (by omega),if_neg (by omega),show (max (e+75) (-1074) - e).toNat=d+64 by omega]
  rw [upc_fup neg mode t _ (by omega) hd2 hlo,stick_div _ (by omega)]
  have e1:(h*18446744073709551616+lo) / 2^(d+64)=h / 2^d:=by
    rw [Nat.pow_add,Nat.mul_comm (2^d),←Nat.div_div_eq_div_mul,show (2:Nat)^64=18446744073709551616 from rfl,show (h*18446744073709551616+lo) / 18446744073709551616=h by omega]
  rw [e1]
theorem fla_least (neg:Bool) {h lo:Nat} {e:Int} (t:Bool) (mode:Int) (h0:9223372036854775808≤h) (h1:h<18446744073709551616) (hlo:lo<18446744073709551616)
    (hd:64<max (e+75) (-1074) - e - 64) :
    fla neg (h*18446744073709551616+lo) e t mode=(if upc neg mode 0 1 then 1 else 0):=by
  have hl:Nat.log2 (h*18446744073709551616+lo)=127:=log2_of (by omega) (by omega)
  have hp:fplace (h*18446744073709551616+lo) e = -1074:=by unfold fplace;rw [hl];omega
  unfold fla
  rw [hl,hp,if_neg (by omega),if_neg (by omega)]
  obtain ⟨D,hD⟩:∃ D,(-1074 - e).toNat=D+129:=⟨(-1074 - e).toNat - 129,by omega⟩
  have hb:h*18446744073709551616+lo<2^128:=by omega
  have hb2:2*2^128≤2^(D+129):=by
    rw [Nat.pow_add,show (2:Nat)^129=2*2^128 from rfl]
    exact Nat.le_mul_of_pos_left _ (Nat.pow_pos (by omega))
  rw [hD,Nat.div_eq_of_lt (by omega),Nat.mod_eq_of_lt (by omega)]
  generalize 2^(D+129)=Q at *
  rw [show (-1074+1074:Int).toNat=0 by omega,Nat.zero_mul]
  simp only [Nat.zero_add]
  have hh:fup neg mode 0 (h*18446744073709551616+lo) Q t=upc neg mode 0 1:=by
    unfold fup upc
    rw [decide_eq_true (show h*18446744073709551616+lo≠0 by omega),decide_eq_true (show (1:Nat)≠0 by omega),decide_eq_false (show ¬ Q<2*(h*18446744073709551616+lo) by omega),decide_eq_false (show ¬ Q=2*(h*18446744073709551616+lo) by omega),
      decide_eq_false (show ¬ (9223372036854775808:Nat)<1 by omega),decide_eq_false (show ¬ (1:Nat)=9223372036854775808 by omega),Bool.true_or]
    rfl
  rw [hh]
theorem fla_great (neg:Bool) {h lo:Nat} {e:Int} (t:Bool) (mode:Int) (h0:9223372036854775808≤h) (h1:h<18446744073709551616) (hlo:lo<18446744073709551616)
    (htop:1023<e+127) :
    fla neg (h*18446744073709551616+lo) e t mode=9218868437227405311+(if upc neg mode 9007199254740991 18437736874454810624 then 1 else 0):=by
  have hl:Nat.log2 (h*18446744073709551616+lo)=127:=log2_of (by omega) (by omega)
  unfold fla
  rw [hl,if_pos (by omega)]
  unfold fover upc
  rw [decide_eq_true (show (18437736874454810624:Nat)≠0 by omega),decide_eq_true (show (9223372036854775808:Nat)<18437736874454810624 by omega)]
  cases neg <;> (repeat' split) <;> simp_all
def Num (N:Nat) (e:Int) (A:Nat) (m:Int):Prop:=∃ a b:Nat,N*2^a=A*2^b∧e - a=m - b
theorem Num.fla {N A:Nat} {e m:Int} (h:Num N e A m) (h0:N≠0) (neg:Bool) (mode:Int):fla neg N e false mode=fla neg A m false mode:=by
  obtain ⟨a,b,h1,h2⟩:=h
  exact fla_eq neg mode h0 h1 h2
theorem Num.refl (N:Nat) (e:Int):Num N e N e:=⟨0,0,rfl,rfl⟩
theorem Num.shift {N A:Nat} {e m:Int} (h:Num N e A m) (k:Nat):Num (N*2^k) (e - k) A m:=by
  obtain ⟨a,b,h1,h2⟩:=h
  exact ⟨a,b+k,by rw [Nat.mul_right_comm,h1,Nat.pow_add,Nat.mul_assoc],by push_cast;omega⟩
theorem Num.unit (N:Nat) (k:Nat) {e m:Int} (h:e=m+k):Num N e (N*2^k) m:=⟨k,0,by simp,by push_cast;omega⟩
theorem sum_value {G L A B:Nat} {eG eL m:Int} {d:Nat} (hG:Num G eG A m) (hL:Num L eL B m) (hd:(d:Int)=eG - eL) :
    Num (G*2^d+L) eL (A+B) m∧Num (G*2^d - L) eL (A - B) m∧(G*2^d=L↔A=B)∧(L<G*2^d↔B<A):=by
  obtain ⟨a,b,h1,h2⟩:=hG
  obtain ⟨p,q,h3,h4⟩:=hL
  have e1:G*2^d*2^(p+b)=A*2^(b+q):=by
    rw [Nat.mul_assoc,←Nat.pow_add,show d+(p+b)=a+q by omega,Nat.pow_add,←Nat.mul_assoc,h1,Nat.mul_assoc,←Nat.pow_add]
  have e2:L*2^(p+b)=B*2^(b+q):=by
    rw [Nat.pow_add,←Nat.mul_assoc,h3,Nat.mul_assoc,←Nat.pow_add,Nat.add_comm q b]
  have p1:0<2^(p+b):=Nat.pow_pos (by omega)
  have p2:0<2^(b+q):=Nat.pow_pos (by omega)
  refine ⟨⟨p+b,b+q,by rw [Nat.add_mul,Nat.add_mul,e1,e2],by push_cast;omega⟩,⟨p+b,b+q,by rw [Nat.sub_mul,Nat.sub_mul,e1,e2],by push_cast;omega⟩,?_,?_⟩
  · rw [←Nat.mul_right_cancel_iff p1,e1,e2,Nat.mul_right_cancel_iff p2]
  · rw [←Nat.mul_lt_mul_right p1,e1,e2,Nat.mul_lt_mul_right p2]
def cancel (mode:Int):Nat:=if mode=1 then 9223372036854775808 else 0
def rsum (S:Int) (m:Int) (mode:Int):Nat:=if S=0 then cancel mode else rnd S m mode
def sgi (s:Bool) (A:Nat):Int:=if s then -(A:Int) else (A:Int)
theorem rnd_sgi (s:Bool) {A:Nat} (h:A≠0) (m:Int) (mode:Int):rnd (sgi s A) m mode=sgz s+fla s A m false mode:=by
  unfold rnd sgi flr sgz
  cases s with
  | true =>
    rw [if_pos rfl,decide_eq_true (show -(A:Int)<0 by omega),Int.natAbs_neg,Int.natAbs_natCast,if_pos rfl]
  | false =>
    simp only [Bool.false_eq_true,if_false]
    rw [decide_eq_false (show ¬ (A:Int)<0 by omega),Int.natAbs_natCast]
    simp
theorem rsum_same (s:Bool) {A B:Nat} (h:A≠0) (m mode:Int):rsum (sgi s A+sgi s B) m mode=sgz s+fla s (A+B) m false mode:=by
  have e:sgi s A+sgi s B=sgi s (A+B):=by unfold sgi;cases s <;> simp <;> omega
  unfold rsum
  rw [e,if_neg (by unfold sgi;split <;> omega),rnd_sgi s (by omega)]
theorem rsum_diff (s:Bool) {A B:Nat} (h:B<A) (m mode:Int):rsum (sgi s A+sgi (!s) B) m mode=sgz s+fla s (A - B) m false mode:=by
  have e:sgi s A+sgi (!s) B=sgi s (A - B):=by unfold sgi;cases s <;> simp <;> omega
  unfold rsum
  rw [e,if_neg (by unfold sgi;split <;> omega),rnd_sgi s (by omega)]
theorem rsum_none (s:Bool) (A:Nat) (m mode:Int):rsum (sgi s A+sgi (!s) A) m mode=cancel mode:=by
  unfold rsum
  rw [if_pos (by unfold sgi;cases s <;> simp <;> omega)]
theorem rs_plus (s:Bool) {G L A B:Nat} {eG eL m:Int} {d:Nat} (hG:Num G eG A m) (hL:Num L eL B m) (hd:(d:Int)=eG - eL+1) (hd0:1≤d) (hG1:2^54≤G) (hG2:G % 2=0) (mode:Int) :
    sgz s+fla s (G / 2+L / 2^d) (eL+d) (decide (L % 2^d≠0)) mode=rsum (sgi s A+sgi s B) m mode:=by
  have hd1:1≤d:=hd0
  obtain ⟨c,rfl⟩:∃ c,d=c+1:=⟨d - 1,by omega⟩
  obtain ⟨v1,-,-,-⟩:=sum_value hG hL (d:=c) (by omega)
  have eg:G / 2*2^(c+1)=G*2^c:=by
    rw [Nat.pow_succ',←Nat.mul_assoc];congr 1;omega
  have hA:A≠0:=by
    rintro rfl
    obtain ⟨a,b,h1,_⟩:=hG
    rw [Nat.zero_mul] at h1
    rcases Nat.mul_eq_zero.1 h1 with h2 | h2
    · omega
    · exact absurd h2 (Nat.pos_iff_ne_zero.1 (Nat.pow_pos (by omega)))
  rw [rsum_same s hA,fla_plus s mode (by omega),eg,v1.fla ?_ s mode]
  have:=Nat.pow_pos (n:=c) (show 0<2 by omega)
  have:0<G*2^c:=Nat.mul_pos (by omega) this
  omega
theorem rs_minus (s:Bool) {G L A B:Nat} {eG eL m:Int} {d:Nat} (hG:Num G eG A m) (hL:Num L eL B m) (hd:(d:Int)=eG - eL+1) (hd0:1≤d) (hG1:2^127≤G) (hG2:G % 2=0) (hL1:L<2^128) (hL2:L % 2^22=0)
    (hGL:L≤G*2^(d - 1)) (mode:Int) :
    (G / 2 - L / 2^d - (if L % 2^d≠0 then 1 else 0)=0→rsum (sgi s A+sgi (!s) B) m mode=cancel mode) ∧
    (G / 2 - L / 2^d - (if L % 2^d≠0 then 1 else 0)≠0→sgz s+fla s (G / 2 - L / 2^d - (if L % 2^d≠0 then 1 else 0)) (eL+d) (decide (L % 2^d≠0)) mode=rsum (sgi s A+sgi (!s) B) m mode):=by
  have hd1:1≤d:=hd0
  obtain ⟨c,rfl⟩:∃ c,d=c+1:=⟨d - 1,by omega⟩
  rw [show c+1 - 1=c by omega] at hGL
  obtain ⟨-,v2,v3,v4⟩:=sum_value hG hL (d:=c) (by omega)
  have eg:G / 2*2^(c+1)=G*2^c:=by
    rw [Nat.pow_succ',←Nat.mul_assoc];congr 1;omega
  have hp:0<2^(c+1):=Nat.pow_pos (by omega)
  have ht:L % 2^(c+1)≠0→2^53≤G / 2 - L / 2^(c+1) - 1:=by
    intro h
    have hc:22≤c:=by
      rcases Nat.lt_or_ge c 22 with h1 | h1
      · exfalso
        apply h
        obtain ⟨k,hk⟩:=Nat.dvd_of_mod_eq_zero hL2
        rw [hk,show 22=c+1+(21 - c) by omega,Nat.pow_add,Nat.mul_assoc]
        exact Nat.mul_mod_right _ _
      · exact h1
    have h2:L / 2^(c+1)≤L / 2^23:=Nat.div_le_div_left (Nat.pow_le_pow_right (by omega) (by omega)) (by decide)
    omega
  have hdm:=Nat.div_add_mod L (2^(c+1))
  constructor
  · intro h
    have h1:L % 2^(c+1)=0:=by
      by_cases h1:L % 2^(c+1)=0
      · exact h1
      · have:=ht h1;rw [if_pos h1] at h;omega
    have h2:G / 2≤L / 2^(c+1):=by rw [if_neg (by simpa using h1)] at h;omega
    have h3:G / 2*2^(c+1)≤L:=by
      have:=Nat.mul_le_mul_right (2^(c+1)) h2
      rw [Nat.mul_comm (L / _)] at this
      omega
    have:A=B:=v3.1 (by omega)
    rw [this]
    exact rsum_none s B m mode
  · intro h
    have h1:L<G*2^c:=by
      rcases Nat.lt_or_ge L (G*2^c) with h1 | h1
      · exact h1
      · exfalso
        have h2:L=G / 2*2^(c+1):=by omega
        apply h
        rw [h2,Nat.mul_div_cancel _ hp,Nat.mul_mod_left]
        simp
    rw [rsum_diff s (v4.1 h1),fla_minus s mode (by omega) ht,eg,v2.fla (by omega) s mode]
end Go.Proofs.YtkomhemjodbkpaaGreatDoor
namespace Go.Proofs
open Go.Shelf
def Tryz.lays134_ren:Go.Shelf.Ren:=⟨fun | 129=>195 | 134=>183 | n=>n,fun | 3=>3 | 4=>4 | 5=>5 | 9=>9 | 46=>90 | 53=>22 | n=>n,fun | n=>n⟩
theorem Tryz.lays134:Go.Proofs.Lays.n134 Tryz.prog Tryz.lays134_ren:={
  mixed:=by kernel_rfl
  f129:=Tryz.func195.trans (congrArg some (by kernel_rfl))
  f134:=Tryz.func183.trans (congrArg some (by kernel_rfl))
  t3:=Tryz.underlying3
  a3:=Tryz.isAgg3
  z3:=Tryz.sizeOf3
  v3:=Tryz.zeroValue3
  t4:=Tryz.underlying4
  a4:=Tryz.isAgg4
  z4:=Tryz.sizeOf4
  v4:=Tryz.zeroValue4
  t5:=Tryz.underlying5
  a5:=Tryz.isAgg5
  z5:=Tryz.sizeOf5
  v5:=Tryz.zeroValue5
  t9:=Tryz.underlying9
  a9:=Tryz.isAgg9
  z9:=Tryz.sizeOf9
  v9:=Tryz.zeroValue9
  t46:=Tryz.underlying90
  a46:=Tryz.isAgg90
  z46:=Tryz.sizeOf90
  v46:=Tryz.zeroValue90
  t53:=Tryz.underlying22
  a53:=Tryz.isAgg22
  z53:=Tryz.sizeOf22
  v53:=Tryz.zeroValue22 }
theorem Tryz.bits_LeadingZeros64 (x:Int) (w:World) (h0:0≤x) (h1:x≤18446744073709551615) :
    Calls Tryz.prog 183 #[.int .u64 x] w fun e w'=>e=.returned (.int .i64 (64 - (Lib.bitLen x.toNat:Int)))∧w'=w:=Any.bits_LeadingZeros64 Tryz.lays134 x w h0 h1
def Tryz.lays264_ren:Go.Shelf.Ren:=⟨fun | 264=>167 | n=>n,fun | 46=>90 | 53=>22 | n=>n,fun | n=>n⟩
theorem Tryz.lays264:Go.Proofs.Lays.n264 Tryz.prog Tryz.lays264_ren:={
  mixed:=by kernel_rfl
  f264:=Tryz.func167.trans (congrArg some (by kernel_rfl))
  t46:=Tryz.underlying90
  a46:=Tryz.isAgg90
  z46:=Tryz.sizeOf90
  v46:=Tryz.zeroValue90
  t53:=Tryz.underlying22
  a53:=Tryz.isAgg22
  z53:=Tryz.sizeOf22
  v53:=Tryz.zeroValue22 }
theorem Tryz.bits_Mul64 (x y:Nat) (hx:x<18446744073709551616) (hy:y<18446744073709551616) (w:World) :
    Calls Tryz.prog 167 #[.int .u64 x,.int .u64 y] w fun e w'=>e=.returned (.tuple #[.int .u64 ((x*y / 18446744073709551616:Nat):Int),.int .u64 ((x*y % 18446744073709551616:Nat):Int)])∧w'=w:=Any.bits_Mul64 Tryz.lays264 x y hx hy w
def Tryz.lays7_25_ren:Go.Shelf.Ren:=⟨fun | 25=>200 | n=>n,fun | 22=>22 | n=>n,fun | n=>n⟩
theorem Tryz.lays7_25:Go.Proofs.Lays7.n25 Tryz.prog Tryz.lays7_25_ren:={
  mixed:=by kernel_rfl
  f25:=Tryz.func200.trans (congrArg some (by kernel_rfl))
  t22:=Tryz.underlying22
  a22:=Tryz.isAgg22
  z22:=Tryz.sizeOf22
  v22:=Tryz.zeroValue22
  i22:=by kernel_rfl }
def Tryz.lays7_26_ren:Go.Shelf.Ren:=⟨fun | 26=>201 | n=>n,fun | 22=>22 | n=>n,fun | n=>n⟩
theorem Tryz.lays7_26:Go.Proofs.Lays7.n26 Tryz.prog Tryz.lays7_26_ren:={
  mixed:=by kernel_rfl
  f26:=Tryz.func201.trans (congrArg some (by kernel_rfl))
  t22:=Tryz.underlying22
  a22:=Tryz.isAgg22
  z22:=Tryz.sizeOf22
  v22:=Tryz.zeroValue22
  i22:=by kernel_rfl }
theorem Tryz.bits_Add64 (x y c:Nat) (hc:c≤1) (w:World) :
    (callFunc 200 #[.int .u64 x,.int .u64 y,.int .u64 c]).run Tryz.prog w =
      .ok (.value (.tuple #[.int .u64 (((x+y+c) % 18446744073709551616:Nat):Int),.int .u64 (((x+y+c) / 18446744073709551616:Nat):Int)])) w:=Any7.bits_Add64 Tryz.lays7_25 x y c hc w
theorem Tryz.bits_Sub64 (x y b:Nat) (hb:b≤1) (w:World) :
    (callFunc 201 #[.int .u64 x,.int .u64 y,.int .u64 b]).run Tryz.prog w =
      .ok (.value (.tuple #[.int .u64 (((x+18446744073709551616 - y - b) % 18446744073709551616:Nat):Int),.int .u64 ((if x<y+b then 1 else 0:Nat):Int)])) w:=Any7.bits_Sub64 Tryz.lays7_26 x y b hb w
end Go.Proofs
