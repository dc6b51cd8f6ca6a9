import Derived.Test.YtkomhemjodbkpaaGreatDoorRows
import Derived.Test.YtkomhemjodbkpaaGreatDoorIExLawU0
import Derived.WalkKit
import Derived.WalkSpells
import Derived.WalkLawsBesides
import Derived.OwnWalk
import Derived.Deep.QuietTactic
import Derived.BigQuiet
import Derived.Laws.Bits64
import Derived.Deep.RegionHeld3
import Derived.Laws.Bits64b
import Derived.Laws.ShiftsVar
import Derived.Laws.ShiftsVarLaws
import Derived.BigRegion
import Derived.RegionTactic
import Derived.ChangeAlike
import Derived.Shelf.Small.Bits
import Derived.Test.YtkomhemjodbkpaaGreatDoorProg
namespace Go.Proofs.YtkomhemjodbkpaaGreatDoor
open Go.RowKit
theorem Tryz.infoU32:(Tryz.prog.info? 72).map (fun i=>(i.zero,i.size,i.bytes))=some (some (.int .u32 0),1,4):=by kernel_rfl
theorem wpList_make_u32 (w:World) {ops:Array Oper} {rest:List Oper} {o:Oper} {a:Act} {Q:Exit→Act→World→Prop}
    (hg:o.guard=none) (l c:Operand) (hop:o.op=Op.makeSlice 34 l c) (L:Int) (n:Nat)
    (hl:a.eval l=.int .i64 L) (hc:a.eval c=.int .i64 L) (hL:L=(n:Int)) (hn:n≤1099511627776)
    (hK:∀ w',Blk w' w.heap.size (List.replicate n 0)→Below w.heap.size w w'→wpList Tryz.prog ops Q rest (a.put o.dst (.slice (some ⟨w.heap.size,0,none⟩) n n)) w') :
    wpList Tryz.prog ops Q (o :: rest) a w:=by
  obtain ⟨i0,hi,hz0,hz1,hz2⟩:=info_parts Tryz.infoU32
  refine wpList_make_full w hg l c 34 hop w.heap.size 72 i0 (.int .u32 0) 1 Tryz.underlying34 hi hz0 hz1 _ _ _ _ n hl hc hL hL (by rw [hz2];omega) (by unfold maxLen;omega) (Nat.le_refl _) ?_
  intro w' ho hgr
  exact hK w' (blk_made ho rfl) ((Below.refl _ w).grown hgr (Nat.le_refl _) (fun k hk=>by cases hk))
open Go.RowKit
theorem Bg.only_box {w w':World} {g:Nat} {nb mb:Bool} {ao ro:Option Addr} {n cap k cr:Nat} {x:Int} (h:Bg w mb ro k cr x) (hx:Box w g nb ao n cap) (ho:Only g w w'):Bg w' mb ro k cr x:=by
  obtain ⟨⟨zs,h1,h2⟩,h3⟩:=h
  exact ⟨⟨zs,h1.only_box hx ho,h2⟩,h3⟩
theorem Bn.only_box {w w':World} {g:Nat} {nb mb:Bool} {ao ro:Option Addr} {n cap k cr:Nat} {x:Int} (h:Bn w mb ro k cr x) (hx:Box w g nb ao n cap) (ho:Only g w w'):Bn w' mb ro k cr x :=
  ⟨h.neg,h.sl.only_box hx ho⟩
open Go.RowKit
def PRows (a b Lk:List Int) (n k:Nat):Prop :=
  Lk.length=n+b.length∧Wf Lk∧num Lk=num a*num (b.take k)∧∀ i,n+k≤i→Lk.getD i 0=0
theorem getD_replicate (n i:Nat):(List.replicate n (0:Int)).getD i 0=0:=by
  by_cases h:i<n <;> simp [List.getD,h]
theorem PRows.start (a b:List Int) (n m:Nat) (hm:b.length=m):PRows a b (List.replicate (n+m) 0) n 0 :=
  ⟨by simp [hm],Wf.replicate _,by simp [num_replicate,num],fun i _=>getD_replicate _ i⟩
theorem mul_bounds {x y:Int} (x0:0≤x) (x1:x<4294967296) (y0:0≤y) (y1:y<4294967296):0≤x*y∧x*y≤18446744065119617025:=by
  refine ⟨Int.mul_nonneg x0 y0,?_⟩
  have h1:x*y≤4294967295*y:=Int.mul_le_mul_of_nonneg_right (by omega) y0
  omega
theorem row_step (k j:Nat) (x y N:Int):4294967296^k*(x*N)+4294967296^(k+j)*(x*y)=4294967296^k*(x*(N+4294967296^j*y)):=by
  rw [Int.pow_add,Int.mul_add,Int.mul_add,Int.mul_assoc,Int.mul_left_comm (4294967296^j) x y]
theorem getD_of_drop_le {zs ys:List Int} {k i:Nat} (h:zs.drop k=ys.drop k) (hi:k≤i):zs.getD i 0=ys.getD i 0:=by
  have:=congrArg (fun l=>l.getD (i - k) 0) h
  simpa [List.getD,show k+(i - k)=i by omega] using this
theorem PRows.step {a b Lk L':List Int} {n k:Nat} {x:Int} {i:Nat} (h:PRows a b Lk n k) (st:Added Lk L' (i+1) 0 (4294967296^k*(x*num a))) (hi:i=k+n) (hk:k<b.length) (hx:b.getD k 0=x) :
    PRows a b L' n (k+1):=by
  obtain ⟨h1,h2,h3,h4⟩:=h
  refine ⟨by rw [st.1,h1],st.2.1,?_,?_⟩
  · rw [st.done,h3,num_take_succ b k hk,hx,Int.mul_add]
    congr 1
    rw [Int.mul_comm x,Int.mul_left_comm]
  · intro j hj
    rw [getD_of_drop_le st.2.2.1 (by omega)]
    exact h4 j (by omega)
open Go.RowKit
theorem num_two (v:Int):num [v % 4294967296,v / 4294967296]=v:=by simp only [num];omega
open Go.RowKit
def Ext (w w':World):Prop:=Below w.heap.size w w'
theorem Ext.refl (w:World):Ext w w:=Below.refl _ _
theorem Ext.trans {a b c:World} (h:Ext a b) (k:Ext b c):Ext a c:=Below.trans h (Below.mono k h.size)
structure Ent where
  v:Value
  x:Int
  N:Nat
  c:Bool
def Ent.Ok (w:World) (p:Ent):Prop :=
  ∃ nb ao n ca,p.v=.agg #[.bool nb,.slice ao n ca]∧Bg w nb ao n ca p.x∧n≤p.N∧p.x.natAbs<4294967296^p.N∧(p.c=true→Bn w nb ao n ca p.x)
theorem Ent.Ok.ext {w w':World} {p:Ent} (h:p.Ok w) (he:Ext w w'):p.Ok w':=by
  obtain ⟨nb,ao,n,ca,h1,h2,h3,h4,h5⟩:=h
  exact ⟨nb,ao,n,ca,h1,h2.below he,h3,h4,fun e=>(h5 e).below he⟩
structure St (W w:World) (L:List Ent):Prop where
  ext:Ext W w
  bag:∀ p∈L,p.Ok w
theorem St.step {W w w':World} {L:List Ent} (h:St W w L) (he:Ext w w'):St W w' L:=⟨h.ext.trans he,fun p hp=>(h.bag p hp).ext he⟩
theorem St.drew {W w:World} {L:List Ent} (h:St W w L):St W w.drew L:=h.step (Below.refl _ _).drew
theorem St.drewN {W w:World} {L:List Ent} (h:St W w L) (q:Nat):St W (w.drewN q) L:=h.step (below_drewN (Below.refl _ _) q)
theorem len_of_lt {x:Int} {N:Nat} (h:x.natAbs<4294967296^N):(limbs x.natAbs).length≤N:=(limbs_len_le _ _).2 h
theorem pow_le {a b:Nat} (h:a≤b):4294967296^a≤4294967296^b:=Nat.pow_le_pow_right (by omega) h
theorem abs_add {x y:Int} {N M:Nat} (hx:x.natAbs<4294967296^N) (hy:y.natAbs<4294967296^M):(x+y).natAbs<4294967296^(max N M+1):=by
  have h1:=Nat.lt_of_lt_of_le hx (pow_le (Nat.le_max_left N M))
  have h2:=Nat.lt_of_lt_of_le hy (pow_le (Nat.le_max_right N M))
  have h3:=Int.natAbs_add_le x y
  rw [Nat.pow_succ]
  omega
theorem abs_sub {x y:Int} {N M:Nat} (hx:x.natAbs<4294967296^N) (hy:y.natAbs<4294967296^M):(x - y).natAbs<4294967296^(max N M+1):=by
  have:=abs_add hx (y:=-y) (M:=M) (by rw [Int.natAbs_neg];exact hy)
  rwa [←Int.sub_eq_add_neg] at this
section
variable {W w:World} {L:List Ent} {u v:Value} {x y:Int} {N M:Nat} {c d:Bool}
end
theorem ok_raw {w:World} {nb:Bool} {ao:Option Addr} {n ca:Nat} {zs:List Int} (h:Sl w ao n ca zs) (N:Nat) (hn:n≤N) (hN:N≤100000):Ent.Ok w ⟨.agg #[.bool nb,.slice ao n ca],sgd nb zs,N,false⟩:=by
  refine ⟨nb,ao,n,ca,rfl,⟨⟨zs,h,rfl⟩,by omega⟩,hn,?_,fun e=>by cases e⟩
  simp only
  rw [sgd_natAbs h.wf]
  have h1:=num_lt h.wf
  have h2:=num_nonneg h.wf
  rw [h.len] at h1
  have h3:((num zs).toNat:Int)<((4294967296^n:Nat):Int):=by rw [Int.toNat_of_nonneg h2,Int.natCast_pow];exact h1
  exact Nat.lt_of_lt_of_le (Int.ofNat_lt.1 h3) (pow_le hn)
theorem lt_or_ge_int (a b:Int):a<b∨b≤a:=by omega
structure Lead (u v top w2 f s B:Int):Prop where
  bpos:0<B
  u0:(top*4294967296+w2)*B≤u
  u1:u<(top*4294967296+w2+1)*B
  v0:(f*4294967296+s)*B≤v
  v1:v<(f*4294967296+s+1)*B
  t0:0≤top
  w0:0≤w2
  w1:w2<4294967296
  s0:0≤s
  s1:s<4294967296
  f0:2147483648≤f
  f1:f<4294967296
  uv:u<v*4294967296
structure Est (u v top f q r:Int):Prop where
  qr:q*f+r=top
  r0:0≤r
  q0:0≤q
  ge:u / v≤q
theorem Lead.vpos {u v top w2 f s B:Int} (h:Lead u v top w2 f s B):0<v:=by
  have h1:0<(f*4294967296+s)*B:=Int.mul_pos (by have:=h.f0;have:=h.s0;omega) h.bpos
  have:=h.v0
  omega
theorem Lead.unonneg {u v top w2 f s B:Int} (h:Lead u v top w2 f s B):0≤u:=by
  have h1:0≤(top*4294967296+w2)*B:=Int.mul_nonneg (by have:=h.t0;have:=h.w0;omega) (Int.le_of_lt h.bpos)
  have:=h.u0
  omega
theorem Lead.qlt {u v top w2 f s B:Int} (h:Lead u v top w2 f s B):u / v<4294967296 :=
  Int.ediv_lt_of_lt_mul h.vpos (by rw [Int.mul_comm];exact h.uv)
theorem Lead.start {u v top w2 f s B:Int} (h:Lead u v top w2 f s B):Est u v top f (top / f) (top % f):=by
  have hf:0<f:=by have:=h.f0;omega
  refine ⟨by rw [Int.mul_comm];exact Int.mul_ediv_add_emod top f,Int.emod_nonneg _ (by omega),Int.ediv_nonneg h.t0 (by omega),?_⟩
  rw [Int.le_ediv_iff_mul_le hf]
  have hQ:u / v*v≤u:=Int.ediv_mul_le u (by have:=h.vpos;omega)
  have hQ0:0≤u / v:=Int.ediv_nonneg h.unonneg (Int.le_of_lt h.vpos)
  generalize u / v=Q at *
  rcases lt_or_ge_int top (Q*f) with hlt | hle
  · exfalso
    -- Q v ≥ Q f R B ≥ (top + 1) R B > u
    have a1:(top+1)*(4294967296*B)≤Q*f*(4294967296*B):=Int.mul_le_mul_of_nonneg_right (by omega) (by have:=h.bpos;omega)
    have a2:Q*((f*4294967296+s)*B)≤Q*v:=Int.mul_le_mul_of_nonneg_left h.v0 hQ0
    have a3:Q*((f*4294967296+s)*B)=Q*f*(4294967296*B)+Q*(s*B):=by
      rw [Int.add_mul,Int.mul_add,Int.mul_assoc f,←Int.mul_assoc Q f]
    have a4:0≤Q*(s*B):=Int.mul_nonneg hQ0 (Int.mul_nonneg h.s0 (Int.le_of_lt h.bpos))
    have a5:(top*4294967296+w2+1)*B≤(top+1)*(4294967296*B):=by
      rw [←Int.mul_assoc]
      exact Int.mul_le_mul_of_nonneg_right (by have:=h.w1;omega) (Int.le_of_lt h.bpos)
    have:=h.u1
    omega
  · exact hle
theorem Lead.lower {u v top w2 f s B q r:Int} (h:Lead u v top w2 f s B) (e:Est u v top f q r) (hc:4294967295<q∨r*4294967296+w2<q*s):u / v≤q - 1:=by
  rcases hc with hc | hc
  · have:=h.qlt;omega
  · have hge:=e.ge
    have hQ:u / v*v≤u:=Int.ediv_mul_le u (by have:=h.vpos;omega)
    rcases lt_or_ge_int (u / v) q with h1 | h1
    · omega
    · exfalso
      have hq:u / v=q:=by omega
      rw [hq] at hQ
      have a2:q*((f*4294967296+s)*B)≤q*v:=Int.mul_le_mul_of_nonneg_left h.v0 e.q0
      have a3:q*((f*4294967296+s)*B)=(q*f*4294967296+q*s)*B:=by
        rw [←Int.mul_assoc,Int.mul_add,←Int.mul_assoc q f]
      have a4:(top*4294967296+w2+1)*B≤(q*f*4294967296+q*s)*B:=by
        refine Int.mul_le_mul_of_nonneg_right ?_ (Int.le_of_lt h.bpos)
        have:=e.qr
        omega
      have:=h.u1
      omega
theorem Lead.step {u v top w2 f s B q r:Int} (h:Lead u v top w2 f s B) (e:Est u v top f q r) (hc:4294967295<q∨r*4294967296+w2<q*s):Est u v top f (q - 1) (r+f):=by
  have h1:=h.lower e hc
  have hQ0:0≤u / v:=Int.ediv_nonneg h.unonneg (Int.le_of_lt h.vpos)
  refine ⟨?_,by have:=e.r0;have:=h.f0;omega,by omega,h1⟩
  have:=e.qr
  rw [Int.sub_mul]
  omega
theorem Lead.out {u v top w2 f s B q r:Int} (h:Lead u v top w2 f s B) (e:Est u v top f q r) (hc:4294967295<r∨(q≤4294967295∧q*s≤r*4294967296+w2)):q≤4294967295∧q≤u / v+1:=by
  have hv:=h.vpos
  -- the first limbs of u are less than those of v, times the base
  have htop:top≤f*4294967296+4294967295:=by
    rcases lt_or_ge_int (f*4294967296+4294967295) top with h1 | h1
    · exfalso
      have a1:(f*4294967296+s+1)*B*4294967296≤(top*4294967296+w2)*B:=by
        rw [Int.mul_assoc,Int.mul_comm B,←Int.mul_assoc]
        exact Int.mul_le_mul_of_nonneg_right (by have:=h.s1;have:=h.w0;omega) (Int.le_of_lt h.bpos)
      have a2:v*4294967296≤(f*4294967296+s+1)*B*4294967296:=Int.mul_le_mul_of_nonneg_right (Int.le_of_lt h.v1) (by omega)
      have:=h.u0
      have:=h.uv
      omega
    · exact h1
  have hqr:=e.qr
  have hr0:=e.r0
  have hq0:=e.q0
  have hf0:=h.f0
  have hs0:=h.s0
  have hs1:=h.s1
  have hw0:=h.w0
  have hq:q≤4294967295:=by
    rcases hc with hc | hc
    · rcases lt_or_ge_int 4294967295 q with h1 | h1
      · exfalso
        have:=Int.mul_le_mul_of_nonneg_right (show 4294967296≤q by omega) (show 0≤f by omega)
        omega
      · exact h1
    · exact hc.1
  refine ⟨hq,?_⟩
  -- (q - 1) v ≤ u
  suffices hs:(q - 1)*v≤u by
    have:=(Int.le_ediv_iff_mul_le hv).2 hs
    omega
  rcases lt_or_ge_int q 1 with h1 | h1
  · have:(q - 1)*v≤0:=by
      have:=Int.mul_le_mul_of_nonneg_right (show q - 1≤0 by omega) (Int.le_of_lt hv)
      omega
    have:=h.unonneg
    omega
  · have hB:=h.bpos
    rcases hc with hc | ⟨_,hc⟩
    · have b1:(q - 1)*v≤(q - 1)*((f*4294967296+s+1)*B):=Int.mul_le_mul_of_nonneg_left (Int.le_of_lt h.v1) (by omega)
      have b2:(q - 1)*((f*4294967296+s+1)*B)=((q - 1)*(f*4294967296+s+1))*B:=by rw [Int.mul_assoc]
      have b3:(q - 1)*(f*4294967296+s+1)≤top*4294967296+w2:=by
        have c1:(q - 1)*(f*4294967296+s+1)=q*f*4294967296 - f*4294967296+(q - 1)*(s+1):=by
          rw [Int.add_assoc,Int.mul_add,←Int.mul_assoc,Int.sub_mul,Int.one_mul,Int.sub_mul]
        have c2:(q - 1)*(s+1)≤4294967294*(s+1):=Int.mul_le_mul_of_nonneg_right (by omega) (by omega)
        omega
      have b4:=Int.mul_le_mul_of_nonneg_right b3 (Int.le_of_lt hB)
      have:=h.u0
      omega
    · have b1:q*v≤q*((f*4294967296+s+1)*B):=Int.mul_le_mul_of_nonneg_left (Int.le_of_lt h.v1) (by omega)
      have b2:q*((f*4294967296+s+1)*B)=(q*f*4294967296+q*s)*B+q*B:=by
        rw [←Int.mul_assoc,Int.mul_add,Int.mul_add,Int.mul_one,←Int.mul_assoc q f,Int.add_mul (_+_) q B]
      have b3:(q*f*4294967296+q*s)*B≤(top*4294967296+w2)*B:=by
        refine Int.mul_le_mul_of_nonneg_right ?_ (Int.le_of_lt hB)
        omega
      have b4:q*B≤(f*4294967296+s)*B:=Int.mul_le_mul_of_nonneg_right (by omega) (Int.le_of_lt hB)
      have:=h.u0
      have:=h.v0
      have e1:(q - 1)*v=q*v - v:=by rw [Int.sub_mul,Int.one_mul]
      omega
open Go.RowKit
theorem and_mask {a:Int} (h0:0≤a) (h1:a<18446744073709551616):bits BinOp.and IntKind.u64 a 4294967295=a % 4294967296:=by
  obtain ⟨n,rfl⟩:=Int.eq_ofNat_of_zero_le h0
  have e:=bits_and_u64_nat n 4294967295 (by omega) (by omega)
  have e2:n &&& 4294967295=n % 4294967296:=by
    have:=Nat.and_two_pow_sub_one_eq_mod n 32
    simpa using this
  rw [e2] at e
  rw [show ((4294967295:Nat):Int)=4294967295 from rfl] at e
  rw [e]
  omega
theorem num_drop' (zs:List Int) (j:Nat) (h:j<zs.length):num (zs.drop j)=zs.getD j 0+4294967296*num (zs.drop (j+1)):=by
  rw [List.drop_eq_getElem_cons h,←getD_at h];rfl
open Go.RowKit
theorem bits_or_u32_nat (a b:Nat) (ha:a<4294967296) (hb:b<4294967296):bits BinOp.or IntKind.u32 (a:Int) (b:Int)=((a ||| b:Nat):Int):=by
  have hx:a ||| b<2^32:=Nat.or_lt_two_pow (by omega) (by omega)
  have h1:(BitVec.ofInt 32 (a:Int)).toNat=a:=by
    rw [BitVec.ofInt_natCast,BitVec.toNat_ofNat];exact Nat.mod_eq_of_lt (by omega)
  have h2:(BitVec.ofInt 32 (b:Int)).toNat=b:=by
    rw [BitVec.ofInt_natCast,BitVec.toNat_ofNat];exact Nat.mod_eq_of_lt (by omega)
  show IntKind.u32.wrap ((BitVec.ofInt 32 (a:Int) ||| BitVec.ofInt 32 (b:Int)).toNat:Int)=_
  rw [BitVec.toNat_or,h1,h2]
  simp only [IntKind.wrap,IntKind.bits,IntKind.signed,Bool.false_and,Bool.false_eq_true,if_false]
  omega
theorem or_low {z q:Int} {k:Nat} (hk:k<32) (z0:0≤z) (z1:z<2^k) (q0:0≤q) (q1:q*2^k<4294967296):bits BinOp.or IntKind.u32 z (q*2^k)=z+q*2^k:=by
  obtain ⟨a,rfl⟩:=Int.eq_ofNat_of_zero_le z0
  obtain ⟨b,rfl⟩:=Int.eq_ofNat_of_zero_le q0
  have h1:a<2^k:=by
    have:((a:Nat):Int)<((2^k:Nat):Int):=by rw [Int.natCast_pow];exact z1
    exact Int.ofNat_lt.1 this
  have h2:b*2^k<4294967296:=by
    have:((b*2^k:Nat):Int)<((4294967296:Nat):Int):=by rw [Int.natCast_mul,Int.natCast_pow];exact q1
    exact Int.ofNat_lt.1 this
  have h3:2^k<2^32:=Nat.pow_lt_pow_right (by omega) hk
  have e:=bits_or_u32_nat a (b*2^k) (by omega) h2
  have e2:a ||| b*2^k=a+b*2^k:=by
    have:=Nat.two_pow_add_eq_or_of_lt h1 b
    rw [Nat.or_comm,Nat.mul_comm b,←this];omega
  rw [e2,Int.natCast_add,Int.natCast_mul,Int.natCast_pow] at e
  exact e
open Go.RowKit
theorem pow_split {k:Nat} (hk:k<32):(2:Int)^k*2^(32 - k)=4294967296:=by rw [←Int.pow_add,show k+(32 - k)=32 by omega];rfl
theorem limb_down {y z:Int} {k:Nat} (hk:k<32) (y0:0≤y) (y1:y<4294967296) :
    bits BinOp.or IntKind.u32 (y / 2^k) (z*2^(32 - k) % 4294967296)=y / 2^k+z % 2^k*2^(32 - k)∧0≤y / 2^k+z % 2^k*2^(32 - k)∧y / 2^k+z % 2^k*2^(32 - k)<4294967296:=by
  have hp:(0:Int)<2^k:=Int.pow_pos (by omega)
  have hpr:(0:Int)<2^(32 - k):=Int.pow_pos (by omega)
  have hp2:=pow_split hk
  have a0:0≤y / 2^k:=Int.ediv_nonneg y0 (by omega)
  have a1:y / 2^k<2^(32 - k):=Int.ediv_lt_of_lt_mul hp (by rw [Int.mul_comm,hp2];exact y1)
  have hq:z*2^(32 - k) % 4294967296=z % 2^k*2^(32 - k):=by
    rw [←hp2,Int.mul_comm z,Int.mul_comm (2^k),Int.mul_emod_mul_of_pos _ _ hpr,Int.mul_comm]
  have q0:0≤z % 2^k:=Int.emod_nonneg _ (by omega)
  have q1:z % 2^k+1≤2^k:=Int.emod_lt_of_pos _ hp
  have h2:=Int.mul_le_mul_of_nonneg_right q1 (Int.le_of_lt hpr)
  rw [hp2,Int.add_mul,Int.one_mul] at h2
  have h3:0≤z % 2^k*2^(32 - k):=Int.mul_nonneg q0 (Int.le_of_lt hpr)
  rw [hq]
  refine ⟨?_,by omega,by omega⟩
  by_cases h0:k=0
  · subst h0
    have e:z % 2^0*2^(32 - 0)=0:=by simp [Int.emod_one]
    rw [e]
    obtain ⟨a,ha⟩:=Int.eq_ofNat_of_zero_le a0
    rw [ha]
    have:=bits_or_u32_nat a 0 (by simp at a1;omega) (by omega)
    simpa using this
  · exact or_low (by omega) a0 a1 q0 (by omega)
def shr (k:Nat):List Int→List Int
  | [] => []
  | z :: rest=>(z / 2^k+rest.getD 0 0 % 2^k*2^(32 - k)) :: shr k rest
theorem shr_length (k:Nat) (ds:List Int):(shr k ds).length=ds.length:=by
  induction ds with
  | nil=>rfl
  | cons z r ih=>simp [shr,ih]
theorem shr_getD (k:Nat) (ds:List Int) (i:Nat) (h:i<ds.length):(shr k ds).getD i 0=ds.getD i 0 / 2^k+ds.getD (i+1) 0 % 2^k*2^(32 - k):=by
  induction ds generalizing i with
  | nil=>simp at h
  | cons z r ih =>
    cases i with
    | zero=>simp [shr]
    | succ i =>
      have:=ih i (by simpa using h)
      simpa [shr] using this
theorem num_shr {k:Nat} (hk:k<32) (ds:List Int):num (shr k ds)=num ds / 2^k:=by
  have hp:(0:Int)<2^k:=Int.pow_pos (by omega)
  have hp2:=pow_split hk
  induction ds with
  | nil=>simp [shr,num]
  | cons z r ih =>
    simp only [shr,num,ih]
    have e1:(z+4294967296*num r) / 2^k=z / 2^k+2^(32 - k)*num r:=by
      rw [←hp2,Int.mul_assoc,Int.add_mul_ediv_left _ _ (by omega)]
    have e2:num r % 2^k=r.getD 0 0 % 2^k:=by
      cases r with
      | nil=>simp [num]
      | cons h t =>
        simp only [num,List.getD_cons_zero]
        rw [←hp2,Int.mul_assoc,Int.add_mul_emod_self_left]
    have e3:=Int.mul_ediv_add_emod (num r) (2^k)
    rw [e1,←e2]
    have e4:2^(32 - k)*num r=4294967296*(num r / 2^k)+num r % 2^k*2^(32 - k):=by
      have:2^(32 - k)*num r=2^(32 - k)*(2^k*(num r / 2^k)+num r % 2^k):=by rw [e3]
      rw [this,Int.mul_add,←Int.mul_assoc,Int.mul_comm (2^(32 - k)) (2^k),hp2,Int.mul_comm (2^(32 - k)) (num r % 2^k)]
    rw [e4]
    omega
theorem pow_le' {a b:Nat} (h:a≤b):4294967296^a≤4294967296^b:=Nat.pow_le_pow_right (by omega) h
theorem num_drop_div {zs:List Int} (h:Wf zs) (s:Nat) (hs:s≤zs.length):num (zs.drop s)=num zs / 4294967296^s:=by
  have e:=num_append (zs.take s) (zs.drop s)
  rw [List.take_append_drop,List.length_take,Nat.min_eq_left hs] at e
  have h1:=num_lt (h.take s)
  rw [List.length_take,Nat.min_eq_left hs] at h1
  have h0:=num_nonneg (h.take s)
  rw [e,Int.add_mul_ediv_left _ _ (Int.ne_of_gt (pow_pos' s)),Int.ediv_eq_zero_of_lt h0 h1]
  omega
theorem pow32 (s k:Nat):(2:Nat)^(s*32+k)=4294967296^s*2^k:=by
  rw [Nat.pow_add,Nat.mul_comm s 32,Nat.pow_mul]
open Go.RowKit
theorem two_stored {w:World} {g h B:Nat} {nb mb:Bool} {ao bo:Option Addr} {n m ca cb:Nat} (hg:Box w g nb ao n ca) (hh:Box w h mb bo m cb) (hne:g≠h) (hBg:B≤g) (hBh:B≤h)
    (pb qb:Bool) (po qo:Option Addr) (pk qk pc qc:Nat) (P Q:List Int) (hp:Sl w po pk pc P) (hq:Sl w qo qk qc Q) :
    let W:=(((w.setCell ⟨g,0,none⟩ (.bool pb)).setCell ⟨g,1,none⟩ (.slice po pk pc)).setCell ⟨h,0,none⟩ (.bool qb)).setCell ⟨h,1,none⟩ (.slice qo qk qc)
    Box W g pb po pk pc∧Box W h qb qo qk qc∧Sl W po pk pc P∧Sl W qo qk qc Q∧Below B w W:=by
  have o1:=only_set2 w g (.bool pb) (.slice po pk pc)
  have g1:=hg.stored pb po pk pc
  have h1:=hh.only o1 (Ne.symm hne)
  have p1:=hp.only_box hg o1
  have q1:=hq.only_box hg o1
  have o2:=only_set2 ((w.setCell ⟨g,0,none⟩ (.bool pb)).setCell ⟨g,1,none⟩ (.slice po pk pc)) h (.bool qb) (.slice qo qk qc)
  exact ⟨g1.only o2 hne,h1.stored qb qo qk qc,p1.only_box h1 o2,q1.only_box h1 o2,(o1.below hBg).trans (o2.below hBh)⟩
end Go.Proofs.YtkomhemjodbkpaaGreatDoor
namespace Go.Proofs
open Go.Shelf
def Tryz.lays128_ren:Go.Shelf.Ren:=⟨fun | 128=>194 | n=>n,fun | 51=>72 | 3=>3 | 4=>4 | 46=>90 | 5=>5 | 9=>9 | n=>n,fun | n=>n⟩
theorem Tryz.lays128:Go.Proofs.Lays.n128 Tryz.prog Tryz.lays128_ren:={
  mixed:=by kernel_rfl
  f128:=Tryz.func194.trans (congrArg some (by kernel_rfl))
  t3:=Tryz.underlying3
  a3:=Tryz.isAgg3
  z3:=Tryz.sizeOf3
  v3:=Tryz.zeroValue3
  t4:=Tryz.underlying4
  a4:=Tryz.isAgg4
  z4:=Tryz.sizeOf4
  v4:=Tryz.zeroValue4
  t5:=Tryz.underlying5
  a5:=Tryz.isAgg5
  z5:=Tryz.sizeOf5
  v5:=Tryz.zeroValue5
  t9:=Tryz.underlying9
  a9:=Tryz.isAgg9
  z9:=Tryz.sizeOf9
  v9:=Tryz.zeroValue9
  t46:=Tryz.underlying90
  a46:=Tryz.isAgg90
  z46:=Tryz.sizeOf90
  v46:=Tryz.zeroValue90
  t51:=Tryz.underlying72
  a51:=Tryz.isAgg72
  z51:=Tryz.sizeOf72
  v51:=Tryz.zeroValue72 }
theorem Tryz.bits_Len32 (x:Int) (w:World) (h0:0≤x) (h1:x≤4294967295) :
    Calls Tryz.prog 194 #[.int .u32 x] w fun e w'=>e=.returned (.int .i64 (Lib.bitLen x.toNat))∧w'=w:=Any.bits_Len32 Tryz.lays128 x w h0 h1
def Tryz.lays133_ren:Go.Shelf.Ren:=⟨fun | 133=>210 | 128=>194 | n=>n,fun | 51=>72 | 3=>3 | 4=>4 | 46=>90 | 5=>5 | 9=>9 | n=>n,fun | n=>n⟩
theorem Tryz.lays133:Go.Proofs.Lays.n133 Tryz.prog Tryz.lays133_ren:={
  mixed:=by kernel_rfl
  f128:=Tryz.func194.trans (congrArg some (by kernel_rfl))
  f133:=Tryz.func210.trans (congrArg some (by kernel_rfl))
  t3:=Tryz.underlying3
  a3:=Tryz.isAgg3
  z3:=Tryz.sizeOf3
  v3:=Tryz.zeroValue3
  t4:=Tryz.underlying4
  a4:=Tryz.isAgg4
  z4:=Tryz.sizeOf4
  v4:=Tryz.zeroValue4
  t5:=Tryz.underlying5
  a5:=Tryz.isAgg5
  z5:=Tryz.sizeOf5
  v5:=Tryz.zeroValue5
  t9:=Tryz.underlying9
  a9:=Tryz.isAgg9
  z9:=Tryz.sizeOf9
  v9:=Tryz.zeroValue9
  t46:=Tryz.underlying90
  a46:=Tryz.isAgg90
  z46:=Tryz.sizeOf90
  v46:=Tryz.zeroValue90
  t51:=Tryz.underlying72
  a51:=Tryz.isAgg72
  z51:=Tryz.sizeOf72
  v51:=Tryz.zeroValue72 }
theorem Tryz.bits_LeadingZeros32 (x:Int) (w:World) (h0:0≤x) (h1:x≤4294967295) :
    Calls Tryz.prog 210 #[.int .u32 x] w fun e w'=>e=.returned (.int .i64 (32 - (Lib.bitLen x.toNat:Int)))∧w'=w:=Any.bits_LeadingZeros32 Tryz.lays133 x w h0 h1
end Go.Proofs
namespace Go.Proofs.YtkomhemjodbkpaaGreatDoor
open Go.RowKit
theorem bitLen_zero:Lib.bitLen 0=0:=by unfold Lib.bitLen;unfold Lib.bitLenAux;simp
theorem bitLen_spec (x:Nat) (h0:x≠0) (h:x<2^64):∃ l,Lib.bitLen x=l+1∧2^l≤x∧x<2^(l+1):=by
  induction x using Nat.strongRecOn with
  | _ x ih =>
    by_cases h1:x / 2=0
    · refine ⟨0,?_,by omega,by omega⟩
      rw [Lib.bitLen_half x h0 h,h1,bitLen_zero]
    · obtain ⟨l,e,l0,l1⟩:=ih (x / 2) (by omega) h1 (by omega)
      refine ⟨l+1,?_,?_,?_⟩
      · rw [Lib.bitLen_half x h0 h,e];omega
      · rw [Nat.pow_succ];omega
      · rw [Nat.pow_succ] at l1 ⊢;omega
theorem norm_shift {b m:Nat} (hm:(limbs b).length=m+1) :
    ∃ k:Nat,k<32∧32 - (Lib.bitLen ((limbs b).getD m 0).toNat:Int)=(k:Int)∧(limbs (b*2^k)).length=m+1∧2147483648≤(limbs (b*2^k)).getD m 0:=by
  have h1:b<4294967296^(m+1):=(limbs_len_le b (m+1)).1 (by omega)
  have h2:4294967296^m≤b:=by
    rcases Nat.lt_or_ge b (4294967296^m) with h | h
    · have:=(limbs_len_le b m).2 h;omega
    · exact h
  have hpm:0<4294967296^m:=Nat.pos_of_ne_zero (by simp)
  have hd1:b / 4294967296^m<4294967296:=by
    rw [Nat.div_lt_iff_lt_mul hpm,Nat.mul_comm,←Nat.pow_succ];exact h1
  have hd0:0<b / 4294967296^m:=Nat.div_pos h2 hpm
  have ht:(limbs b).getD m 0=((b / 4294967296^m:Nat):Int):=by
    rw [limbs_at,Nat.mod_eq_of_lt hd1]
  rw [ht,Int.toNat_natCast]
  generalize htt:b / 4294967296^m=t at *
  obtain ⟨l,e,l0,l1⟩:=bitLen_spec t (by omega) (by omega)
  have hl:l<32:=by
    rcases Nat.lt_or_ge l 32 with h | h
    · exact h
    · have:=Nat.pow_le_pow_right (show 0<2 by omega) h
      omega
  refine ⟨31 - l,by omega,by rw [e];omega,?_,?_⟩
  all_goals
    have hp:2^(31 - l)*2^l=2147483648:=by rw [←Nat.pow_add,show 31 - l+l=31 by omega]
    have hp2:2^(31 - l)*2^(l+1)=4294967296:=by rw [←Nat.pow_add,show 31 - l+(l+1)=32 by omega]
    have hk0:0<2^(31 - l):=Nat.pos_of_ne_zero (by simp)
    -- b 2^k / R^m = ..
    have hb1:b<(t+1)*4294967296^m:=by
      rw [←htt,Nat.add_mul,Nat.one_mul,Nat.mul_comm (b / 4294967296^m)]
      have:=Nat.div_add_mod b (4294967296^m)
      have:=Nat.mod_lt b hpm
      omega
    have hb0:t*4294967296^m≤b:=by rw [←htt];exact Nat.div_mul_le_self _ _
    have hv1:b*2^(31 - l)<4294967296^(m+1):=by
      have a1:b*2^(31 - l)<(t+1)*4294967296^m*2^(31 - l):=Nat.mul_lt_mul_of_pos_right hb1 hk0
      have a2:(t+1)*4294967296^m*2^(31 - l)≤2^(l+1)*4294967296^m*2^(31 - l):=Nat.mul_le_mul_right _ (Nat.mul_le_mul_right _ (by omega))
      have a3:2^(l+1)*4294967296^m*2^(31 - l)=4294967296^(m+1):=by
        rw [Nat.mul_right_comm,Nat.mul_comm (2^(l+1)),hp2,Nat.pow_succ,Nat.mul_comm]
      omega
    have hv0:2147483648*4294967296^m≤b*2^(31 - l):=by
      have a1:2^l*4294967296^m*2^(31 - l)≤b*2^(31 - l):=Nat.mul_le_mul_right _ (Nat.le_trans (Nat.mul_le_mul_right _ l0) hb0)
      have a3:2^l*4294967296^m*2^(31 - l)=2147483648*4294967296^m:=by
        rw [Nat.mul_right_comm,Nat.mul_comm (2^l),hp]
      omega
  · have g1:=(limbs_len_le (b*2^(31 - l)) (m+1)).2 hv1
    rcases Nat.lt_or_ge (limbs (b*2^(31 - l))).length (m+1) with h | h
    · exfalso
      have g2:=(limbs_len_le (b*2^(31 - l)) m).1 (by omega)
      omega
    · omega
  · rw [limbs_at]
    have g1:2147483648≤b*2^(31 - l) / 4294967296^m:=(Nat.le_div_iff_mul_le hpm).2 hv0
    have g2:b*2^(31 - l) / 4294967296^m<4294967296:=by
      rw [Nat.div_lt_iff_lt_mul hpm]
      rw [Nat.pow_succ,Nat.mul_comm (4294967296^m)] at hv1
      exact hv1
    rw [Nat.mod_eq_of_lt g2]
    omega
def Knuth (u v:Int) (U Q:List Int) (nu nq j:Nat):Prop :=
  U.length=nu∧Q.length=nq∧Wf U∧Wf Q∧u=num U+v*(4294967296^j*num (Q.drop j))∧num U<v*4294967296^j
theorem Knuth.window {u v:Int} {U Q:List Int} {nu nq t m:Nat} (h:Knuth u v U Q nu nq (t+1)) (hv1:v<4294967296^m) (hl:t+(m+1)≤nu) :
    num U=num (U.take t)+4294967296^t*num ((U.drop t).take (m+1))∧num (U.drop (t+(m+1)))=0∧num ((U.drop t).take (m+1))<v*4294967296:=by
  obtain ⟨h1,h2,h3,h4,h5,h6⟩:=h
  have e1:=num_append (U.take t) (U.drop t)
  have e2:=num_append ((U.drop t).take (m+1)) ((U.drop t).drop (m+1))
  rw [List.take_append_drop,List.length_take,Nat.min_eq_left (by omega)] at e1
  rw [List.take_append_drop,List.length_take,List.length_drop,Nat.min_eq_left (by omega),List.drop_drop] at e2
  have p0:=num_nonneg (h3.take t)
  have v0:=num_nonneg ((h3.drop t).take (m+1))
  have t0:=num_nonneg (h3.drop (t+(m+1)))
  have hpt:=pow_pos' t
  have hT:num (U.drop (t+(m+1)))=0:=by
    rcases Int.lt_or_eq_of_le t0 with hlt | heq
    · exfalso
      have a1:(4294967296:Int)^(m+1)*1≤4294967296^(m+1)*num (U.drop (t+(m+1))):=Int.mul_le_mul_of_nonneg_left (by omega) (Int.le_of_lt (pow_pos' _))
      have a2:(4294967296:Int)^t*4294967296^(m+1)≤4294967296^t*num (U.drop t):=Int.mul_le_mul_of_nonneg_left (by omega) (Int.le_of_lt hpt)
      have a3:v*4294967296^(t+1)≤4294967296^t*4294967296^(m+1):=by
        have:=Int.mul_le_mul_of_nonneg_right (Int.le_of_lt hv1) (Int.le_of_lt (pow_pos' (t+1)))
        have e:(4294967296:Int)^m*4294967296^(t+1)=4294967296^t*4294967296^(m+1):=by
          rw [←Int.pow_add,←Int.pow_add,show m+(t+1)=t+(m+1) by omega]
        rw [e] at this
        exact this
      omega
    · exact heq.symm
  rw [hT,Int.mul_zero,Int.add_zero] at e2
  rw [e2] at e1
  refine ⟨e1,hT,?_⟩
  rcases lt_or_ge_int (num ((U.drop t).take (m+1))) (v*4294967296) with hlt | hge
  · exact hlt
  · exfalso
    have a1:=Int.mul_le_mul_of_nonneg_left hge (Int.le_of_lt hpt)
    have a2:(4294967296:Int)^t*(v*4294967296)=v*4294967296^(t+1):=by rw [Int.pow_succ,Int.mul_left_comm]
    omega
theorem Knuth.step {u v:Int} {U Q V':List Int} {nu nq t m:Nat} (h:Knuth u v U Q nu nq (t+1)) (hv0:0<v) (hv1:v<4294967296^m) (hl:t+(m+1)≤nu) (hq:t<nq)
    (hV:V'.length=m+1) (hwf:Wf V') (hr:num V'=num ((U.drop t).take (m+1)) % v) :
    Knuth u v (U.take t++(V'++U.drop (t+(m+1)))) (Q.set t (num ((U.drop t).take (m+1)) / v)) nu nq t:=by
  obtain ⟨w1,w2,w3⟩:=h.window hv1 hl
  obtain ⟨h1,h2,h3,h4,h5,h6⟩:=h
  have v0:=num_nonneg ((h3.drop t).take (m+1))
  have p0:=num_nonneg (h3.take t)
  have p1:=num_lt (h3.take t)
  rw [List.length_take,Nat.min_eq_left (by omega)] at p1
  have hdm:=Int.mul_ediv_add_emod (num ((U.drop t).take (m+1))) v
  have r0:0≤num ((U.drop t).take (m+1)) % v:=Int.emod_nonneg _ (by omega)
  have r1:num ((U.drop t).take (m+1)) % v<v:=Int.emod_lt_of_pos _ hv0
  have q0:0≤num ((U.drop t).take (m+1)) / v:=Int.ediv_nonneg v0 (Int.le_of_lt hv0)
  have q1:num ((U.drop t).take (m+1)) / v<4294967296:=Int.ediv_lt_of_lt_mul hv0 (by rw [Int.mul_comm];exact w3)
  have eU:num (U.take t++(V'++U.drop (t+(m+1))))=num (U.take t)+4294967296^t*num V':=by
    rw [num_append,num_append,w2,List.length_take,Nat.min_eq_left (by omega)]
    simp
  have hpt:=pow_pos' t
  refine ⟨by simp [h1,hV];omega,by simpa using h2,(h3.take t).append (hwf.append (h3.drop _)),h4.set _ ⟨q0,q1⟩,?_,?_⟩
  · rw [eU,hr,h5,w1,num_drop' (Q.set t _) t (by simp [h2];omega),List.drop_set_of_lt (by omega),getD_set _ _ _ _ (by omega),if_pos rfl]
    generalize num ((U.drop t).take (m+1))=A at *
    generalize num (Q.drop (t+1))=C at *
    generalize num (U.take t)=D at *
    have e1:v*(4294967296^t*(A / v+4294967296*C))=4294967296^t*(v*(A / v))+v*(4294967296^(t+1)*C):=by
      rw [Int.mul_add (4294967296^t),Int.mul_add v,Int.mul_left_comm v,Int.pow_succ,Int.mul_assoc]
    have e2:(4294967296:Int)^t*A=4294967296^t*(v*(A / v))+4294967296^t*(A % v):=by rw [←Int.mul_add,hdm]
    rw [e1,e2]
    omega
  · rw [eU,hr]
    generalize num ((U.drop t).take (m+1))=A at *
    have a1:(4294967296:Int)^t*(A % v+1)≤4294967296^t*v:=Int.mul_le_mul_of_nonneg_left (by omega) (Int.le_of_lt hpt)
    rw [Int.mul_add,Int.mul_one,Int.mul_comm (4294967296^t) v] at a1
    omega
end Go.Proofs.YtkomhemjodbkpaaGreatDoor
