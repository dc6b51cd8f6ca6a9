import Derived.Below
import Derived.WalkKit
import Derived.WalkSmall
import Derived.Laws.CopyOwn
import Derived.Lib.Hide
import Derived.Deep.QuietTactic
import Derived.BigQuiet
import Derived.Test.YtkomhemjodbkpaaGreatDoorCards
import Derived.Test.YtkomhemjodbkpaaGreatDoorTie
import Derived.ProofKit
import Derived.OpenShut
import Derived.Deep.DeepHandedRow
import Derived.Lib.LaidTab
import Derived.Lib.SmallJoins
import Derived.LaidMore
import Derived.Test.YtkomhemjodbkpaaGreatDoorRows
import Derived.WalkSpells
import Derived.WalkLawsBesides
import Derived.Shelf.Spec.TrailingZeros
namespace Go.Proofs.YtkomhemjodbkpaaGreatDoor
theorem getD_at {zs:List Int} {j:Nat} (h:j<zs.length):zs.getD j 0=zs[j]:=by simp [List.getD,h]
def Wf (zs:List Int):Prop:=∀ z∈zs,0≤z∧z<4294967296
def num:List Int→Int
  | []=>0
  | z :: zs=>z+4294967296*num zs
def limbs (n:Nat):List Int:=if h:n=0 then [] else ((n % 4294967296:Nat):Int) :: limbs (n / 4294967296)
termination_by n
decreasing_by omega
theorem limbs_zero:limbs 0 = []:=by rw [limbs];simp
theorem limbs_pos {n:Nat} (h:n≠0):limbs n=((n % 4294967296:Nat):Int) :: limbs (n / 4294967296):=by rw [limbs];simp [h]
theorem Wf.nil:Wf []:=by intro z h;cases h
theorem Wf.cons {z:Int} {zs:List Int} (h:0≤z∧z<4294967296) (hs:Wf zs):Wf (z :: zs):=by
  intro y hy
  rcases List.mem_cons.1 hy with rfl | hy
  · exact h
  · exact hs y hy
theorem Wf.head {z:Int} {zs:List Int} (h:Wf (z :: zs)):0≤z∧z<4294967296:=h z (by simp)
theorem Wf.tail {z:Int} {zs:List Int} (h:Wf (z :: zs)):Wf zs:=fun y hy=>h y (by simp [hy])
theorem Wf.take {zs:List Int} (h:Wf zs) (n:Nat):Wf (zs.take n):=fun y hy=>h y (List.mem_of_mem_take hy)
theorem Wf.drop {zs:List Int} (h:Wf zs) (n:Nat):Wf (zs.drop n):=fun y hy=>h y (List.mem_of_mem_drop hy)
theorem Wf.append {a b:List Int} (h:Wf a) (k:Wf b):Wf (a++b):=by
  intro y hy
  rcases List.mem_append.1 hy with hy | hy
  · exact h y hy
  · exact k y hy
theorem Wf.getD {zs:List Int} (h:Wf zs) (j:Nat):0≤zs.getD j 0∧zs.getD j 0<4294967296:=by
  by_cases hj:j<zs.length
  · rw [getD_at hj];exact h _ (List.getElem_mem hj)
  · simp [List.getD,List.getElem?_eq_none (by omega:zs.length≤j)]
theorem Wf.set {zs:List Int} (h:Wf zs) (j:Nat) {x:Int} (hx:0≤x∧x<4294967296):Wf (zs.set j x):=by
  intro y hy
  rcases List.mem_or_eq_of_mem_set hy with hy | rfl
  · exact h y hy
  · exact hx
theorem Wf.replicate (n:Nat):Wf (List.replicate n 0):=by
  intro y hy
  rw [List.mem_replicate] at hy
  omega
theorem Wf.limbs (n:Nat):Wf (limbs n):=by
  induction n using Nat.strongRecOn with
  | _ n ih =>
    by_cases h:n=0
    · subst h;rw [limbs_zero];exact Wf.nil
    · rw [limbs_pos h]
      exact Wf.cons ⟨by omega,by omega⟩ (ih _ (by omega))
theorem num_nonneg {zs:List Int} (h:Wf zs):0≤num zs:=by
  induction zs with
  | nil=>simp [num]
  | cons z zs ih=>have:=ih h.tail;have:=h.head;simp only [num];omega
theorem num_limbs (n:Nat):num (limbs n)=n:=by
  induction n using Nat.strongRecOn with
  | _ n ih =>
    by_cases h:n=0
    · subst h;rw [limbs_zero];simp [num]
    · rw [limbs_pos h]
      simp only [num,ih (n / 4294967296) (by omega)]
      omega
theorem limbs_inj {a b:Nat} (h:limbs a=limbs b):a=b:=by
  have:=congrArg num h
  rw [num_limbs,num_limbs] at this
  omega
theorem limbs_num {zs:List Int} (h:Wf zs) (hl:∀ m,zs.length=m+1→zs.getD m 0≠0):limbs (num zs).toNat=zs:=by
  induction zs with
  | nil=>simp [num,limbs_zero]
  | cons z zs ih =>
    have hz:=h.head
    have hn:=num_nonneg h.tail
    have h0:(num (z :: zs)).toNat≠0:=by
      cases zs with
      | nil=>have:=hl 0 rfl;simp [num] at this ⊢;omega
      | cons y ys =>
        have hy:limbs (num (y :: ys)).toNat=y :: ys:=ih h.tail (fun m hm=>by have:=hl (m+1) (by simpa using hm);simpa using this)
        intro h0
        have:(num (y :: ys)).toNat=0:=by simp only [num] at h0 hn ⊢;omega
        rw [this,limbs_zero] at hy
        cases hy
    rw [limbs_pos h0]
    have e1:(((num (z :: zs)).toNat % 4294967296:Nat):Int)=z:=by simp only [num];omega
    have e2:(num (z :: zs)).toNat / 4294967296=(num zs).toNat:=by simp only [num];omega
    rw [e1,e2,ih h.tail]
    intro m hm
    have:=hl (m+1) (by simp [hm])
    simpa using this
theorem num_append (a b:List Int):num (a++b)=num a+4294967296^a.length*num b:=by
  induction a with
  | nil=>simp [num]
  | cons z zs ih =>
    simp only [List.cons_append,num,ih,List.length_cons]
    rw [Int.pow_succ,Int.mul_add,Int.mul_comm (4294967296^zs.length) 4294967296,Int.mul_assoc]
    omega
theorem num_replicate (n:Nat):num (List.replicate n 0)=0:=by
  induction n with
  | zero=>simp [num]
  | succ n ih=>simp [List.replicate_succ,num,ih]
theorem num_lt {zs:List Int} (h:Wf zs):num zs<4294967296^zs.length:=by
  induction zs with
  | nil=>simp [num]
  | cons z zs ih =>
    have:=ih h.tail
    have hz:=h.head
    simp only [num,List.length_cons,Int.pow_succ]
    omega
theorem pow_pos' (n:Nat):(0:Int)<4294967296^n:=by
  induction n with
  | zero=>simp
  | succ n ih=>rw [Int.pow_succ];omega
def tlen (zs:List Int):Nat→Nat
  | 0=>0
  | n+1=>if zs.getD n 0=0 then tlen zs n else n+1
theorem tlen_le (zs:List Int) (n:Nat):tlen zs n≤n:=by
  induction n with
  | zero=>simp [tlen]
  | succ n ih=>unfold tlen;split <;> omega
theorem take_succ_getD (zs:List Int) (k:Nat) (h:k<zs.length):zs.take (k+1)=zs.take k++[zs.getD k 0]:=by
  rw [List.take_succ_eq_append_getElem h,getD_at h]
theorem num_take_succ (zs:List Int) (k:Nat) (h:k<zs.length):num (zs.take (k+1))=num (zs.take k)+4294967296^k*zs.getD k 0:=by
  rw [take_succ_getD zs k h,num_append]
  simp [num,List.length_take,Nat.min_eq_left (Nat.le_of_lt h)]
theorem take_tlen {zs:List Int} (h:Wf zs) (n:Nat) (hn:n≤zs.length):zs.take (tlen zs n)=limbs (num (zs.take n)).toNat:=by
  induction n with
  | zero=>simp [tlen,num,limbs_zero]
  | succ n ih =>
    unfold tlen
    by_cases h0:zs.getD n 0=0
    · rw [if_pos h0,ih (by omega),num_take_succ zs n (by omega),h0]
      simp
    · rw [if_neg h0,limbs_num (h.take _)]
      intro m hm
      simp only [List.length_take] at hm
      obtain rfl:m=n:=by omega
      rw [take_succ_getD zs m (by omega)]
      simpa [List.getD,List.length_take,Nat.min_eq_left (show m≤zs.length by omega)] using h0
theorem limbs_len_le (n k:Nat):(limbs n).length≤k↔n<4294967296^k:=by
  induction k generalizing n with
  | zero =>
    by_cases h:n=0
    · subst h;simp [limbs_zero]
    · rw [limbs_pos h];simp;omega
  | succ k ih =>
    by_cases h:n=0
    · subst h;simp [limbs_zero];exact Nat.pos_of_ne_zero (by simp)
    · rw [limbs_pos h,List.length_cons,Nat.succ_le_succ_iff,ih,Nat.pow_succ]
      omega
theorem lt_of_len_lt {a b:Nat} (h:(limbs a).length<(limbs b).length):a<b:=by
  have h1:=(limbs_len_le a (limbs a).length).1 (Nat.le_refl _)
  have h2:¬ b<4294967296^(limbs a).length:=fun h3=>by have:=(limbs_len_le b _).2 h3;omega
  omega
theorem limbs_mono {a b:Nat} (h:a≤b):(limbs a).length≤(limbs b).length:=by
  rw [limbs_len_le]
  have:=(limbs_len_le b (limbs b).length).1 (Nat.le_refl _)
  omega
theorem num_lt_of_limb {a b:List Int} (ha:Wf a) (hb:Wf b) (hl:a.length=b.length) (i:Nat) (hi:i<a.length)
    (hs:a.drop (i+1)=b.drop (i+1)) (h:a.getD i 0<b.getD i 0):num a<num b:=by
  have ea:num a=num (a.take (i+1))+4294967296^(i+1)*num (a.drop (i+1)):=by
    have:=num_append (a.take (i+1)) (a.drop (i+1))
    rw [List.take_append_drop] at this
    rw [this,List.length_take,Nat.min_eq_left (by omega)]
  have eb:num b=num (b.take (i+1))+4294967296^(i+1)*num (b.drop (i+1)):=by
    have:=num_append (b.take (i+1)) (b.drop (i+1))
    rw [List.take_append_drop] at this
    rw [this,List.length_take,Nat.min_eq_left (by omega)]
  rw [ea,eb,hs,num_take_succ a i hi,num_take_succ b i (by omega)]
  have h1:=num_lt (ha.take i)
  rw [List.length_take,Nat.min_eq_left (by omega)] at h1
  have h2:=num_nonneg (hb.take i)
  have h3:(4294967296^i:Int)*a.getD i 0+4294967296^i≤4294967296^i*b.getD i 0:=by
    have:=Int.mul_le_mul_of_nonneg_left (show a.getD i 0+1≤b.getD i 0 by omega) (Int.le_of_lt (pow_pos' i))
    rw [Int.mul_add,Int.mul_one] at this
    exact this
  omega
def sgn3 (x y:Int):Int:=if x<y then -1 else if y<x then 1 else 0
theorem sgn3_lens {a b:Nat} (h:(limbs a).length≠(limbs b).length):sgn3 ((limbs a).length:Int) ((limbs b).length:Int)=sgn3 a b:=by
  unfold sgn3
  rcases Nat.lt_or_gt_of_ne h with h1 | h1
  · have:=lt_of_len_lt h1
    rw [if_pos (by omega),if_pos (by omega)]
  · have:=lt_of_len_lt h1
    rw [if_neg (by omega),if_pos (by omega),if_neg (by omega),if_pos (by omega)]
theorem sgn3_limb {a b:Nat} (hl:(limbs a).length=(limbs b).length) (i:Nat) (hi:i<(limbs a).length)
    (hs:(limbs a).drop (i+1)=(limbs b).drop (i+1)) (h:(limbs a).getD i 0≠(limbs b).getD i 0):sgn3 ((limbs a).getD i 0) ((limbs b).getD i 0)=sgn3 a b:=by
  unfold sgn3
  rcases Int.lt_or_gt_of_ne h with h1 | h1
  · have:=num_lt_of_limb (Wf.limbs a) (Wf.limbs b) hl i hi hs h1
    rw [num_limbs,num_limbs] at this
    rw [if_pos h1,if_pos this]
  · have:=num_lt_of_limb (Wf.limbs b) (Wf.limbs a) hl.symm i (by omega) hs.symm h1
    rw [num_limbs,num_limbs] at this
    rw [if_neg (by omega),if_pos h1,if_neg (by omega),if_pos this]
theorem drop_eq_cons {zs ys:List Int} {i:Nat} (h:i<zs.length) (h':i<ys.length) (hd:zs.drop (i+1)=ys.drop (i+1)) (he:zs.getD i 0=ys.getD i 0):zs.drop i=ys.drop i:=by
  rw [List.drop_eq_getElem_cons h,List.drop_eq_getElem_cons h',hd,←getD_at h,←getD_at h',he]
theorem getD_of_drop {zs ys:List Int} {k:Nat} (h:zs.drop k=ys.drop k):zs.getD k 0=ys.getD k 0:=by
  have:=congrArg (fun l=>l.getD 0 0) h
  simpa [List.getD] using this
theorem take_set_succ (zs:List Int) (k:Nat) (z:Int) (h:k<zs.length):(zs.set k z).take (k+1)=zs.take k++[z]:=by
  have e:(zs.set k z).take k=zs.take k:=by rw [List.take_set];exact List.set_eq_of_length_le (by simp;omega)
  rw [take_succ_getD _ _ (by simpa using h),e]
  simp [List.getD,h]
theorem num_take_set (zs:List Int) (k:Nat) (z:Int) (h:k<zs.length):num ((zs.set k z).take (k+1))=num (zs.take k)+4294967296^k*z:=by
  rw [take_set_succ zs k z h,num_append]
  simp [num,List.length_take,Nat.min_eq_left (Nat.le_of_lt h)]
theorem getD_set (L:List Int) (i j:Nat) (v:Int) (h:i<L.length):(L.set i v).getD j 0=if i=j then v else L.getD j 0:=by
  simp only [List.getD,List.getElem?_set]
  split <;> simp_all
def Added (L Lk:List Int) (k:Nat) (c N:Int):Prop :=
  Lk.length=L.length∧Wf Lk∧Lk.drop k=L.drop k∧num (Lk.take k)+4294967296^k*c=num (L.take k)+N
theorem Added.start {L:List Int} (h:Wf L):Added L L 0 0 0:=⟨rfl,h,rfl,by simp⟩
theorem Added.at {L xs:List Int} {x:Int} (h:Wf L) (k:Nat):Added L L (k+0) 0 (4294967296^k*(x*num (xs.take 0))):=⟨rfl,h,rfl,by simp [num]⟩
theorem Added.step {L Lk:List Int} {k:Nat} {c N:Int} (h:Added L Lk k c N) (hk:k<L.length) (y t:Int) (ht:t=c+(L.getD k 0+y)) :
    Added L (Lk.set k (t % 4294967296)) (k+1) (t / 4294967296) (N+4294967296^k*y):=by
  obtain ⟨h1,h2,h3,h4⟩:=h
  refine ⟨by simpa using h1,h2.set _ ⟨by omega,by omega⟩,?_,?_⟩
  · have:(Lk.drop k).drop 1=(L.drop k).drop 1:=by rw [h3]
    rw [List.drop_drop,List.drop_drop] at this
    rw [←this,List.drop_set_of_lt (by omega)]
  · rw [num_take_set _ _ _ (by omega),num_take_succ L k hk,Int.pow_succ]
    have e:t % 4294967296+4294967296*(t / 4294967296)=t:=by omega
    have e2:(4294967296^k:Int)*(t % 4294967296)+4294967296^k*4294967296*(t / 4294967296)=4294967296^k*t:=by
      rw [Int.mul_assoc,←Int.mul_add,e]
    have e3:(4294967296^k:Int)*t=4294967296^k*c+(4294967296^k*L.getD k 0+4294967296^k*y):=by
      rw [ht,Int.mul_add,Int.mul_add]
    omega
theorem Added.done {L Lk:List Int} {k:Nat} {N:Int} (h:Added L Lk k 0 N):num Lk=num L+N:=by
  obtain ⟨h1,h2,h3,h4⟩:=h
  have a:=num_append (Lk.take k) (Lk.drop k)
  have b:=num_append (L.take k) (L.drop k)
  rw [List.take_append_drop] at a b
  rw [a,b,h3,List.length_take,List.length_take,h1]
  simp at h4
  rw [h4]
  omega
theorem limbs_at (a i:Nat):(limbs a).getD i 0=((a / 4294967296^i % 4294967296:Nat):Int):=by
  induction i generalizing a with
  | zero =>
    by_cases h:a=0
    · subst h;simp [limbs_zero]
    · rw [limbs_pos h];simp
  | succ i ih =>
    by_cases h:a=0
    · subst h;simp [limbs_zero]
    · rw [limbs_pos h]
      have:=ih (a / 4294967296)
      rw [Nat.div_div_eq_div_mul,←Nat.pow_succ'] at this
      simpa using this
open Go Go.RowKit
def At (w:World) (ao:Option Addr) (zs:List Int):Prop :=
  0<zs.length→∃ b off,ao=some ⟨b,off,none⟩∧∀ j,j<zs.length→w.cell? ⟨b,off+j,none⟩=some (.int .u32 (zs.getD j 0))
structure Sl (w:World) (ao:Option Addr) (n cap:Nat) (zs:List Int):Prop where
  len:zs.length=n
  cap:n≤cap
  big:n≤1099511627776
  wf:Wf zs
  cells:At w ao zs
def Blk (w:World) (g:Nat) (L:List Int):Prop:=w.heap[g]?=some (.cells (L.map (Value.int .u32)).toArray 72 (0,0))
structure Only (g:Nat) (w w':World):Prop where
  os:w'.os=w.os
  tape:w'.tape=w.tape
  output:w'.output=w.output
  size:w'.heap.size=w.heap.size
  block:∀ k,k≠g→w'.heap[k]?=w.heap[k]?
theorem Only.refl (g:Nat) (w:World):Only g w w:=⟨rfl,rfl,rfl,rfl,fun _ _=>rfl⟩
theorem Only.trans {g:Nat} {a b c:World} (h:Only g a b) (k:Only g b c):Only g a c :=
  ⟨k.os.trans h.os,k.tape.trans h.tape,k.output.trans h.output,k.size.trans h.size,fun i hi=>(k.block i hi).trans (h.block i hi)⟩
theorem Only.below {g B:Nat} {w w':World} (h:Only g w w') (hB:B≤g):Below B w w' :=
  ⟨h.os,h.tape,h.output,by rw [h.size];exact Nat.le_refl _,fun k hk=>h.block k (by omega)⟩
theorem Only.setCell {g:Nat} {a w:World} (h:Only g a w) (o:Nat) (u:Value):Only g a (w.setCell ⟨g,o,none⟩ u) :=
  h.trans ⟨rfl,rfl,rfl,by simp [World.setCell],fun k hk=>Below.heap_setCell _ _ _ _ (by simpa using hk)⟩
theorem Only.drew {g:Nat} {a w:World} (h:Only g a w):Only g a w.drew:=⟨h.os,h.tape,h.output,h.size,h.block⟩
theorem Only.drewN {g:Nat} {a w:World} (h:Only g a w) (n:Nat):Only g a (w.drewN n):=⟨h.os,h.tape,h.output,h.size,h.block⟩
theorem lt_of_cell {w:World} {b o:Nat} {v:Value} (h:w.cell? ⟨b,o,none⟩=some v):b<w.heap.size:=World.block_lt_of_cell? w _ h
theorem At.below {w w':World} {ao:Option Addr} {zs:List Int} (h:At w ao zs) (hb:Below w.heap.size w w'):At w' ao zs:=by
  intro h0
  obtain ⟨b,off,e,hc⟩:=h h0
  refine ⟨b,off,e,fun j hj=>?_⟩
  have:=hc j hj
  rw [hb.cell (p:=⟨b,off+j,none⟩) (lt_of_cell this)]
  exact this
theorem Sl.below {w w':World} {ao:Option Addr} {n cap:Nat} {zs:List Int} (h:Sl w ao n cap zs) (hb:Below w.heap.size w w'):Sl w' ao n cap zs :=
  ⟨h.len,h.cap,h.big,h.wf,h.cells.below hb⟩
theorem Sl.nil (w:World):Sl w none 0 0 []:=⟨rfl,Nat.le_refl _,by simp,Wf.nil,fun h=>absurd h (by simp)⟩
theorem take_getD (zs:List Int) (k j:Nat) (h:j<k):(zs.take k).getD j 0=zs.getD j 0:=by
  simp [List.getD,h]
theorem At.take {w:World} {ao:Option Addr} {zs:List Int} (h:At w ao zs) (k:Nat):At w ao (zs.take k):=by
  intro h0
  rw [List.length_take] at h0
  obtain ⟨b,off,e,hc⟩:=h (by omega)
  refine ⟨b,off,e,fun j hj=>?_⟩
  rw [List.length_take] at hj
  rw [take_getD zs k j (by omega)]
  exact hc j (by omega)
theorem Blk.lt {w:World} {g:Nat} {L:List Int} (h:Blk w g L):g<w.heap.size:=(Array.getElem?_eq_some_iff.1 h).1
theorem Blk.cell {w:World} {g:Nat} {L:List Int} (h:Blk w g L) (j:Nat) (hj:j<L.length):w.cell? ⟨g,j,none⟩=some (.int .u32 (L.getD j 0)):=by
  rw [cell_of_row w g j _ _ _ h]
  simp [List.getD,hj]
theorem Blk.frozen {w:World} {g:Nat} {L:List Int} (h:Blk w g L) (j:Nat):w.frozen? ⟨g,j,none⟩=false:=by
  unfold Blk at h
  simp [World.frozen?,h]
theorem Blk.kept {w w':World} {g:Nat} {L:List Int} (h:Blk w g L) {B:Nat} (hb:Below B w w') (hg:g<B):Blk w' g L:=by
  unfold Blk;rw [hb.block g hg];exact h
theorem Blk.below {w w':World} {g:Nat} {L:List Int} (h:Blk w g L) (hb:Below w.heap.size w w'):Blk w' g L:=h.kept hb h.lt
theorem Blk.only {w w':World} {g k:Nat} {L:List Int} (h:Blk w g L) (hb:Only k w w') (hg:g≠k):Blk w' g L:=by
  unfold Blk;rw [hb.block g hg];exact h
theorem Blk.drew {w:World} {g:Nat} {L:List Int} (h:Blk w g L):Blk w.drew g L:=h
theorem Blk.drewN {w:World} {g:Nat} {L:List Int} (h:Blk w g L) (n:Nat):Blk (w.drewN n) g L:=h
theorem Blk.set {w:World} {g:Nat} {L:List Int} (h:Blk w g L) (i:Nat) (x:Int):Blk (w.setCell ⟨g,i,none⟩ (.int .u32 x)) g (L.set i x):=by
  unfold Blk at h ⊢
  simp only [World.setCell,Array.getElem?_modify,if_true,h,Option.map_some]
  congr 2
  apply Array.ext'
  simp [List.map_set]
theorem Blk.at {w:World} {g:Nat} {L:List Int} (h:Blk w g L):At w (some ⟨g,0,none⟩) L:=fun _=>⟨g,0,rfl,fun j hj=>by rw [Nat.zero_add];exact h.cell j hj⟩
theorem Blk.sl {w:World} {g n cap:Nat} {L:List Int} (h:Blk w g L) (hw:Wf L) (hn:L.length=n) (hl:n≤1099511627776) (hc:n≤cap):Sl w (some ⟨g,0,none⟩) n cap L :=
  ⟨hn,hc,hl,hw,h.at⟩
theorem Sl.take {w:World} {ao:Option Addr} {n cap:Nat} {zs:List Int} (h:Sl w ao n cap zs) (k:Nat) (hk:k≤n):Sl w ao k cap (zs.take k) :=
  ⟨by rw [List.length_take,h.len,Nat.min_eq_left hk],by have:=h.cap;omega,by have:=h.big;omega,h.wf.take k,h.cells.take k⟩
def Stay (g:Nat) (w:World) (ao:Option Addr) (zs:List Int):Prop:=∀ w',Only g w w'→At w' ao zs
theorem At.stay {w:World} {ao:Option Addr} {zs:List Int} {B g:Nat} (h:At w ao zs) (hB:∀ b off,ao=some ⟨b,off,none⟩→0<zs.length→b<B) (hg:B≤g):Stay g w ao zs:=by
  intro w' ho h0
  obtain ⟨b,off,e,hc⟩:=h h0
  have hb:=hB b off e h0
  refine ⟨b,off,e,fun j hj=>?_⟩
  rw [(ho.below hg).cell (p:=⟨b,off+j,none⟩) hb]
  exact hc j hj
theorem At.stay_below {w w1:World} {ao:Option Addr} {zs:List Int} {g:Nat} (h:At w ao zs) (hb:Below w.heap.size w w1) (hg:w.heap.size≤g):Stay g w1 ao zs:=by
  refine At.stay (h.below hb) (B:=w.heap.size) ?_ hg
  intro b off e h0
  obtain ⟨b',off',e',hc⟩:=h h0
  rw [e] at e'
  cases e'
  exact lt_of_cell (hc 0 h0)
theorem blk_made {w:World} {n base g cap:Nat} (h:w.ownsRow base 72 1 (.slice (some ⟨g,0,none⟩) n cap) n (madeCells (Value.int .u32 0).cells (n*1)).toList) (hcap:cap=n) :
    Blk w g (List.replicate n 0):=by
  obtain ⟨_,h2⟩:=h
  rcases h2 with ⟨h0,_⟩ | ⟨g',cap',cur,hv,_,hh,_,_,hsz,htake⟩
  · cases h0
  · cases hv
    subst hcap
    unfold Blk
    rw [hh]
    rw [List.take_of_length_le (by simp [hsz])] at htake
    have:cur=(List.map (Value.int IntKind.u32) (List.replicate cap 0)).toArray:=by
      apply Array.ext'
      rw [htake]
      simp [madeCells,Value.cells,Nat.mod_one,List.map_const']
    rw [this]
def sgd (nb:Bool) (zs:List Int):Int:=if nb then - num zs else num zs
structure Bg (w:World) (nb:Bool) (ao:Option Addr) (n cap:Nat) (x:Int):Prop where
  ex:∃ zs,Sl w ao n cap zs∧x=sgd nb zs
  small:n≤1000000000
structure Bn (w:World) (nb:Bool) (ao:Option Addr) (n cap:Nat) (x:Int):Prop where
  neg:nb=decide (x<0)
  sl:Sl w ao n cap (limbs x.natAbs)
theorem Bg.below {w w':World} {nb:Bool} {ao:Option Addr} {n cap:Nat} {x:Int} (h:Bg w nb ao n cap x) (hb:Below w.heap.size w w'):Bg w' nb ao n cap x:=by
  obtain ⟨⟨zs,h1,h2⟩,h3⟩:=h
  exact ⟨⟨zs,h1.below hb,h2⟩,h3⟩
theorem Bn.below {w w':World} {nb:Bool} {ao:Option Addr} {n cap:Nat} {x:Int} (h:Bn w nb ao n cap x) (hb:Below w.heap.size w w'):Bn w' nb ao n cap x :=
  ⟨h.neg,h.sl.below hb⟩
theorem sgd_natAbs {nb:Bool} {zs:List Int} (h:Wf zs):(sgd nb zs).natAbs=(num zs).toNat:=by
  have hn:=num_nonneg h
  unfold sgd
  split <;> omega
theorem bn_of {w:World} {nb nr:Bool} {ro:Option Addr} {k cr a:Nat} {x:Int} (hs:Sl w ro k cr (limbs a)) (hnr:nr=(nb&&decide (0<k))) (hx:x=if nb then - (a:Int) else a):Bn w nr ro k cr x:=by
  have e:x.natAbs=a:=by rw [hx];split <;> omega
  refine ⟨?_,by rw [e];exact hs⟩
  have hl:=hs.len
  have h0:a=0↔k=0:=by
    rw [←hl]
    constructor
    · rintro rfl;simp [limbs_zero]
    · intro h;exact limbs_inj (by rw [limbs_zero];exact List.eq_nil_of_length_eq_zero h)
  rw [hnr,hx]
  cases nb
  · simp <;> omega
  · simp <;> omega
theorem Bn.bg {w:World} {nb:Bool} {ao:Option Addr} {n cap:Nat} {x:Int} (h:Bn w nb ao n cap x) (hs:n≤1000000000):Bg w nb ao n cap x:=by
  refine ⟨⟨_,h.sl,?_⟩,hs⟩
  unfold sgd
  rw [num_limbs,h.neg]
  by_cases hx:x<0
  · simp [hx] <;> omega
  · simp [hx] <;> omega
def Box (W:World) (g:Nat) (nb:Bool) (ao:Option Addr) (n cap:Nat):Prop:=W.heap[g]?=some (.cells #[.bool nb,.slice ao n cap] 36 (0,0))
theorem Box.c0 {W:World} {g:Nat} {nb:Bool} {ao:Option Addr} {n cap:Nat} (h:Box W g nb ao n cap):W.cell? ⟨g,0,none⟩=some (.bool nb):=by
  rw [cell_of_row W g 0 _ _ _ h];rfl
theorem Box.c1 {W:World} {g:Nat} {nb:Bool} {ao:Option Addr} {n cap:Nat} (h:Box W g nb ao n cap):W.cell? ⟨g,1,none⟩=some (.slice ao n cap):=by
  rw [cell_of_row W g 1 _ _ _ h];rfl
theorem Box.f {W:World} {g:Nat} {nb:Bool} {ao:Option Addr} {n cap:Nat} (h:Box W g nb ao n cap) (o:Nat):W.frozen? ⟨g,o,none⟩=false:=by
  unfold Box at h;simp [World.frozen?,h]
theorem Box.new (w:World) (nb:Bool) (ao:Option Addr) (n cap:Nat):Box (w.alloc (.cells #[.bool nb,.slice ao n cap] 36)) w.heap.size nb ao n cap:=heap_alloc_new w _
theorem Box.kept {w w':World} {B g:Nat} {nb:Bool} {ao:Option Addr} {n cap:Nat} (h:Box w g nb ao n cap) (hb:Below B w w') (hg:g<B):Box w' g nb ao n cap:=by
  unfold Box;rw [hb.block g hg];exact h
theorem Box.lt {w:World} {g:Nat} {nb:Bool} {ao:Option Addr} {n cap:Nat} (h:Box w g nb ao n cap):g<w.heap.size:=lt_of_cell h.c0
theorem Box.below {w w':World} {g:Nat} {nb:Bool} {ao:Option Addr} {n cap:Nat} (h:Box w g nb ao n cap) (hb:Below w.heap.size w w'):Box w' g nb ao n cap:=h.kept hb h.lt
theorem Box.drew {w:World} {g:Nat} {nb:Bool} {ao:Option Addr} {n cap:Nat} (h:Box w g nb ao n cap):Box w.drew g nb ao n cap:=h
theorem Box.drewN {w:World} {g:Nat} {nb:Bool} {ao:Option Addr} {n cap:Nat} (h:Box w g nb ao n cap) (q:Nat):Box (w.drewN q) g nb ao n cap:=h
theorem Sl.drew {w:World} {ao:Option Addr} {n cap:Nat} {zs:List Int} (h:Sl w ao n cap zs):Sl w.drew ao n cap zs:=h.below (Below.refl _ _).drew
theorem Sl.drewN {w:World} {ao:Option Addr} {n cap:Nat} {zs:List Int} (h:Sl w ao n cap zs) (q:Nat):Sl (w.drewN q) ao n cap zs:=h.below (below_drewN (Below.refl _ _) q)
theorem At.only_box {w w':World} {g:Nat} {nb:Bool} {ao ro:Option Addr} {n cap:Nat} {zs:List Int} (hx:Box w g nb ao n cap) (h:At w ro zs) (ho:Only g w w'):At w' ro zs:=by
  intro h0
  obtain ⟨b,off,e,hc⟩:=h h0
  refine ⟨b,off,e,fun j hj=>?_⟩
  have hne:b≠g:=by
    rintro rfl
    have:=hc j hj
    rw [cell_of_row w b (off+j) _ _ _ hx] at this
    match off+j,this with
    | 0,this=>simp at this
    | 1,this=>simp at this
    | k+2,this=>simp at this
  rw [World.cell?_of_block (w:=w) (ho.block b hne)]
  exact hc j hj
theorem Sl.only_box {w w':World} {g:Nat} {nb:Bool} {ao ro:Option Addr} {n cap k cr:Nat} {zs:List Int} (h:Sl w ro k cr zs) (hx:Box w g nb ao n cap) (ho:Only g w w'):Sl w' ro k cr zs :=
  ⟨h.len,h.cap,h.big,h.wf,h.cells.only_box hx ho⟩
theorem only_set2 (w:World) (g:Nat) (u v:Value):Only g w ((w.setCell ⟨g,0,none⟩ u).setCell ⟨g,1,none⟩ v):=((Only.refl g w).setCell _ _).setCell _ _
theorem only_set1 (w:World) (g o:Nat) (u:Value):Only g w (w.setCell ⟨g,o,none⟩ u):=(Only.refl g w).setCell _ _
theorem Box.only {w w':World} {g k:Nat} {nb:Bool} {ao:Option Addr} {n cap:Nat} (h:Box w g nb ao n cap) (ho:Only k w w') (hne:g≠k):Box w' g nb ao n cap:=by
  unfold Box;rw [ho.block g hne];exact h
theorem Box.stored {w:World} {g:Nat} {nb:Bool} {ao:Option Addr} {n cap:Nat} (h:Box w g nb ao n cap) (mb:Bool) (bo:Option Addr) (m cb:Nat) :
    Box ((w.setCell ⟨g,0,none⟩ (.bool mb)).setCell ⟨g,1,none⟩ (.slice bo m cb)) g mb bo m cb:=by
  unfold Box at h ⊢
  simp [World.setCell,Array.getElem?_modify,h]
theorem Box.stored0 {w:World} {g:Nat} {nb:Bool} {ao:Option Addr} {n cap:Nat} (h:Box w g nb ao n cap) (mb:Bool) :
    Box (w.setCell ⟨g,0,none⟩ (.bool mb)) g mb ao n cap:=by
  unfold Box at h ⊢
  simp [World.setCell,Array.getElem?_modify,h]
theorem bnext {B:Nat} {w W W2:World} (h:Below B w W) (hB:B≤W.heap.size) (h2:Below W.heap.size W W2):Below B w W2∧B≤W2.heap.size:=⟨h.trans (h2.mono hB),by have:=h2.size;omega⟩
theorem drewN_world (W:World) (q:Nat):∃ W2,W.drewN q=W2∧Below W.heap.size W W2:=⟨_,rfl,below_drewN (Below.refl _ _) q⟩
theorem boxes1 (w:World) (nb:Bool) (ao:Option Addr) (n cap:Nat) :
    ∃ W,W=(w.alloc (.cells #[.bool nb,.slice ao n cap] 36)).alloc (.cells #[.bool false,.slice none 0 0] 36)∧Below w.heap.size w W∧Box W w.heap.size nb ao n cap∧Box W (w.heap.size+1) false none 0 0∧w.heap.size+2≤W.heap.size:=by
  refine ⟨_,rfl,((Below.refl _ w).alloc (Nat.le_refl _) _).alloc (by simp) _,?_,?_,by simp⟩
  · exact (Box.new w nb ao n cap).below ((Below.refl _ _).alloc (Nat.le_refl _) _)
  · have:=Box.new (w.alloc (.cells #[.bool nb,.slice ao n cap] 36)) false none 0 0
    simpa using this
theorem boxes2 (w:World) (nb:Bool) (ao:Option Addr) (n cap:Nat) (mb:Bool) (bo:Option Addr) (m cb:Nat) :
    ∃ W,W=((w.alloc (.cells #[.bool nb,.slice ao n cap] 36)).alloc (.cells #[.bool mb,.slice bo m cb] 36)).alloc (.cells #[.bool false,.slice none 0 0] 36)∧Below w.heap.size w W ∧
      Box W w.heap.size nb ao n cap∧Box W (w.heap.size+1) mb bo m cb∧Box W (w.heap.size+1+1) false none 0 0∧w.heap.size+3≤W.heap.size:=by
  refine ⟨_,rfl,(((Below.refl _ w).alloc (Nat.le_refl _) _).alloc (by simp) _).alloc (by simp;omega) _,?_,?_,?_,by simp⟩
  · exact (Box.new w nb ao n cap).below (((Below.refl _ _).alloc (Nat.le_refl _) _).alloc (by simp) _)
  · have:=(Box.new (w.alloc (.cells #[.bool nb,.slice ao n cap] 36)) mb bo m cb).below ((Below.refl _ _).alloc (Nat.le_refl _) (.cells #[.bool false,.slice none 0 0] 36))
    simpa using this
  · have:=Box.new ((w.alloc (.cells #[.bool nb,.slice ao n cap] 36)).alloc (.cells #[.bool mb,.slice bo m cb] 36)) false none 0 0
    simpa using this
open Go.ChangeShapes Go.WideShapes Go.ChangeAt Go.RowKit Go.Joins
theorem Tryz.own:ownKnob Tryz.prog.godebug=none:=by kernel_rfl
theorem Tryz.laidOut:laidOutB Tryz.prog=true:=by kernel_rfl
open Go.RowKit
def Table (w:World):Prop:=TabAt 3 Lib.deBruijn32tab w
theorem Table.below {w w':World} (h:Table w) (hb:Below w.heap.size w w'):Table w':=by
  intro j hj
  have h1:=h j hj
  rw [hb.cell (p:=⟨_,j,none⟩) (lt_of_cell h1)]
  exact h1
set_option maxRecDepth 100000 in
set_option maxHeartbeats 1000000 in
theorem tz32_at (x k idx:Nat) (w:World) (hx0:((x:Int) == 0)=false)
    (key:bits BinOp.and IntKind.u32 (x:Int) (-(x:Int) % 4294967296)*125613361 % 4294967296 / 134217728=(idx:Int))
    (hi:idx<32) (hk:k<32) (hcell:w.cell? ⟨3,idx,none⟩=some (.int .u8 k)) :
    Calls Tryz.prog 196 #[.int .u32 x] w fun e w'=>e=.returned (.int .i64 k)∧w=w':=by
  go_enter Tryz.func196,Tryz.ntmps196
  go_wp2_with (simp only [key])
  go_ret
  exact ⟨rfl,rfl⟩
theorem ctz_lt {x:Nat} (h:x≠0) (h1:x<4294967296):Lib.ctz 32 x<32:=(Lib.lowest_bit 32 x h h1).2
theorem tz32_any (x:Nat) (h0:x≠0) (h1:x<4294967296) (w:World) (hT:Table w) :
    Calls Tryz.prog 196 #[.int .u32 x] w fun e w'=>e=.returned (.int .i64 (Lib.ctz 32 x))∧w=w':=by
  obtain ⟨hlow,hk⟩:=Lib.lowest_bit 32 x h0 h1
  obtain ⟨hi,htab⟩:=Lib.deBruijn32_at _ hk
  have hcell:=hT _ hi
  rw [htab] at hcell
  exact tz32_at x _ _ w (by simp;omega) (tz32_key x _ h1 h0 hlow) hi hk hcell
def IsTz (a t:Nat):Prop:=(a=0∧t=0)∨(a≠0∧∃ m,a=2^t*(2*m+1))
theorem odd_unique {s t m n:Nat} (h:2^s*(2*m+1)=2^t*(2*n+1)):s=t:=by
  induction s generalizing t with
  | zero =>
    rcases t with _ | t
    · rfl
    · exfalso
      rw [Nat.pow_zero,Nat.one_mul,Nat.pow_succ,Nat.mul_assoc,Nat.mul_left_comm] at h
      omega
  | succ s ih =>
    rcases t with _ | t
    · exfalso
      rw [Nat.pow_zero,Nat.one_mul,Nat.pow_succ,Nat.mul_assoc,Nat.mul_left_comm] at h
      omega
    · rw [Nat.pow_succ,Nat.mul_assoc,Nat.mul_left_comm,Nat.pow_succ,Nat.mul_assoc (2^t),Nat.mul_left_comm (2^t)] at h
      have:=ih (t:=t) (by omega)
      omega
theorem IsTz.unique {a s t:Nat} (h:IsTz a s) (k:IsTz a t):s=t:=by
  rcases h with ⟨h0,rfl⟩ | ⟨h0,m,hm⟩
  · rcases k with ⟨_,rfl⟩ | ⟨k0,_⟩
    · rfl
    · exact absurd h0 k0
  · rcases k with ⟨k0,_⟩ | ⟨_,n,hn⟩
    · exact absurd k0 h0
    · exact odd_unique (hm.symm.trans hn)
theorem IsTz.mul {a t:Nat} (h:IsTz a t) (h0:a≠0) (k:Nat):IsTz (a*2^k) (t+k):=by
  rcases h with ⟨e,_⟩ | ⟨_,m,hm⟩
  · exact absurd e h0
  · refine Or.inr ⟨Nat.mul_ne_zero h0 (by simp),m,?_⟩
    rw [hm,Nat.pow_add,Nat.mul_right_comm]
theorem tz_limbs {a j x:Nat} (hz:∀ i,i<j→(limbs a).getD i 0=0) (hx:(limbs a).getD j 0=(x:Int)) (hx0:x≠0) (hx1:x<4294967296) (hj:j<(limbs a).length):IsTz a (j*32+Lib.ctz 32 x):=by
  have hpj:(0:Nat)<4294967296^j:=Nat.pos_of_ne_zero (by simp)
  have hlow:num ((limbs a).take j)=0:=by
    have:∀ k,k≤j→num ((limbs a).take k)=0:=by
      intro k
      induction k with
      | zero=>intro _;simp [num]
      | succ k ih=>intro hk;rw [num_take_succ _ _ (by omega),ih (by omega),hz k (by omega)];simp
    exact this j (Nat.le_refl _)
  have e:=num_append ((limbs a).take j) ((limbs a).drop j)
  rw [List.take_append_drop,List.length_take,Nat.min_eq_left (by omega),hlow,num_limbs,List.drop_eq_getElem_cons hj,num,←getD_at hj,hx] at e
  have hwd:=num_nonneg ((Wf.limbs a).drop (j+1))
  obtain ⟨q,hq⟩:=Int.eq_ofNat_of_zero_le hwd
  rw [hq] at e
  have e2:a=4294967296^j*(x+4294967296*q):=by
    apply Int.ofNat.inj
    show (a:Int)=_
    rw [e,Int.zero_add]
    push_cast
    rfl
  have hc:Lib.ctz 32 x=Lib.ctzFrom 32 x:=by unfold Lib.ctz;rw [if_neg hx0]
  obtain ⟨m,hm,hlt⟩:=Lib.ctzFrom_spec 32 x (by omega) (by omega)
  rw [hc]
  generalize Lib.ctzFrom 32 x=t at *
  have hp32:(4294967296:Nat)=2^t*(2*2^(31 - t)):=by
    rw [←Nat.pow_succ',←Nat.pow_add,show t+(31 - t+1)=32 by omega]
  refine Or.inr ⟨?_,m+2^(31 - t)*q,?_⟩
  · rw [e2];exact Nat.mul_ne_zero (by omega) (by omega)
  · have e3:x+4294967296*q=2^t*(2*(m+2^(31 - t)*q)+1):=by
      conv=>lhs;rw [hm,hp32]
      rw [Nat.mul_assoc (2^t),←Nat.mul_add,Nat.mul_assoc 2]
      congr 1
      omega
    rw [e2,e3,Nat.mul_comm j 32,Nat.pow_add,Nat.pow_mul,Nat.mul_assoc]
open Go.ChangeShapes Go.WideShapes Go.ChangeAt Go.RowKit Go.Joins Go.Deep
theorem table_of {rest : List (String × DataW Unit)} {W : World} (h : laidMet Tryz.prog (("math/bits.deBruijn32tab", Rows.laid_math_bits_deBruijn32tab) :: rest) W) : Table W := by
  have h1 : Lib.TabIs Tryz.prog W "math/bits.deBruijn32tab" .u8 (Lib.deBruijn32tab.map fun (n : Nat) => (n : Int)) :=
    Lib.tabIs_of_head (g:=3) (t:=157) (e:=5) (n:=32) (rest:=rest) (by kernel_rfl) (by kernel_rfl) (by kernel_rfl) (by kernel_rfl) (by kernel_rfl) (by kernel_rfl) h
  intro j hj
  have h2:=h1.cell (g:=3) (by kernel_rfl) j (by simpa using hj)
  rw [h2]
  simp [List.getD,hj]
open Go.ChangeShapes Go.WideShapes Go.ChangeAt Go.RowKit Go.Joins Go.Deep
theorem Tryz.cellsInterval:Tryz.prog.cellsOf 25=2:=by kernel_rfl
theorem Tryz.cellsFloat:Tryz.prog.cellsOf 23=1:=by kernel_rfl
theorem Tryz.readInterval:Tryz.prog.readableRec 25=true:=by kernel_rfl
theorem Tryz.sizeInterval:25<Tryz.prog.types.size:=of_decide_eq_true (by kernel_rfl)
set_option maxRecDepth 100000 in
theorem raw_interval {H:Type} {enc:TypeId × Value→H} {W:World} {base:Nat} {v:Value} {d:DataW H} {p:List MemPlace} (hv:Value.okWide Tryz.prog W .any base 25 v)
    (h:DataW.Trod enc Tryz.prog W 0 (fun _=>true) true 25 v d p):∃ lo hi:Int,v=.agg #[.int .u64 lo,.int .u64 hi]∧(0≤lo∧lo<18446744073709551616)∧(0≤hi∧hi<18446744073709551616):=by
  obtain ⟨cs,rfl,hsz⟩:=okWide_struct Tryz.underlying25 hv
  obtain ⟨c0,c1,rfl⟩:=array2 (hsz.trans Tryz.cellsInterval)
  obtain ⟨fuel,hf⟩:=h
  obtain ⟨z0,z1,m',_,_,hz0,hz1⟩:=trod_struct2 Tryz.underlying25 hf
  simp only [Value.cells,Tryz.cellsFloat,List.drop_zero,List.take_succ_cons,List.take_zero,List.drop_succ_cons] at hz0 hz1
  obtain ⟨lo,e0,_,w0⟩:=DataW.trod_int Tryz.underlying23 hz0
  simp at e0
  subst e0
  obtain ⟨hi,e1,_,w1⟩:=DataW.trod_int Tryz.underlying23 hz1
  simp at e1
  subst e1
  have b0:=bounds_u64 w0
  have b1:=bounds_u64 w1
  exact ⟨lo,hi,rfl,by omega,by omega⟩
end Go.Proofs.YtkomhemjodbkpaaGreatDoor
