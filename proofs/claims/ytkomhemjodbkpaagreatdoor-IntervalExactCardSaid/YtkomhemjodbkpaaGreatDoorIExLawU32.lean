import Derived.Test.YtkomhemjodbkpaaGreatDoorIExLawU28
import Derived.Test.YtkomhemjodbkpaaGreatDoorIExLawU30
namespace Go.Proofs.YtkomhemjodbkpaaGreatDoor
open Go Go.RowKit
theorem nbx_six (w:World) {ab an:Bool} {ao:Option Addr} {ak ac:Nat} {af ai:Int} {bb bn:Bool} {bo:Option Addr} {bk bc:Nat} {bf bi:Int} {cb cn:Bool} {co:Option Addr} {ck cc:Nat} {cf ci:Int} {db dn:Bool} {do':Option Addr} {dk dc:Nat} {df di:Int} :
    ∃ W,W=(((((w.alloc (.cells #[.int .i64 ai,.bool ab,.bool an,.slice ao ak ac,.int .i64 af] 56)).alloc (.cells #[.int .i64 bi,.bool bb,.bool bn,.slice bo bk bc,.int .i64 bf] 56)).alloc (.cells #[.int .i64 ci,.bool cb,.bool cn,.slice co ck cc,.int .i64 cf] 56)).alloc (.cells #[.int .i64 di,.bool db,.bool dn,.slice do' dk dc,.int .i64 df] 56)).alloc (.cells #[.int .i64 0,.bool false,.bool false,.slice none 0 0,.int .i64 0] 56)).alloc (.cells #[.int .i64 0,.bool false,.bool false,.slice none 0 0,.int .i64 0] 56)∧Below w.heap.size w W∧NBx W w.heap.size ai ab an ao ak ac af∧NBx W (w.heap.size+1) bi bb bn bo bk bc bf∧NBx W (w.heap.size+1+1) ci cb cn co ck cc cf∧NBx W (w.heap.size+1+1+1) di db dn do' dk dc df∧NBx W (w.heap.size+1+1+1+1) 0 false false none 0 0 0∧NBx W (w.heap.size+1+1+1+1+1) 0 false false none 0 0 0∧w.heap.size+6≤W.heap.size:=by
  obtain ⟨W1,h1,e1,x1,y1⟩:=nbx_two w ai ab an ao ak ac af bi bb bn bo bk bc bf
  obtain ⟨W2,h2,e2,x2,y2⟩:=nbx_two W1 ci cb cn co ck cc cf di db dn do' dk dc df
  obtain ⟨W3,h3,e3,x3,y3⟩:=nbx_two W2 0 false false none 0 0 0 0 false false none 0 0 0
  have s1:W1.heap.size=w.heap.size+2:=by rw [h1];simp
  have s2:W2.heap.size=W1.heap.size+2:=by rw [h2];simp
  have s3:W3.heap.size=W2.heap.size+2:=by rw [h3];simp
  refine ⟨W3,by rw [h3,h2,h1],Ext.trans (Ext.trans e1 e2) e3,(x1.ext e2).ext e3,(y1.ext e2).ext e3,?_,?_,?_,?_,by omega⟩
  · have:=x2.ext e3;rw [s1] at this;exact this
  · have:=y2.ext e3;rw [s1] at this;exact this
  · rw [s2,s1] at x3;exact x3
  · rw [s2,s1] at y3;exact y3
noncomputable def refSpan_r1_code:Code:=((Tryz.f51.body.bind (regOf 1)).getD .skip)
set_option maxRecDepth 100000 in
set_option maxHeartbeats 20000000 in
theorem refSpan_r1 {f0 f1 f2 f3 f5 f6 f7 f8 f9 f10 f11 f12 f13 f14 f15 f16 f17 f18 f19 f20 f21 f22 f23 f24 f25 f26 f27 f28 f29 f30 f31 f32 f33 f34 f35 f36 f37 f38 f39:Value} {J K':Act→World→Prop} {Q':Exit→Act→World→Prop} {ab an:Bool} {ao:Option Addr} {ak ac:Nat} {af ai:Int} {B:Nat} {V:World}
    (hJ:∀ (a':Act) (wx:World),(∃ u10 u11 u12 u13 u14 u15 u16 u17 u18 u19 u20 u21 u22 u23 u24 u25 u26 u27 u28 u29 u30 u31 u32 u33 u34 u35 u36 u37 u38 u39:Value,(∃ g h,u10=.pointer (some ⟨g,0,none⟩)∧u11=.pointer (some ⟨h,0,none⟩)∧NBx wx g ai ab an ao ak ac af∧NBx wx h ai ab an ao ak ac af∧V.heap.size≤g∧V.heap.size≤h∧g≠h∧Ext V wx)∧a'=⟨#[f0,f1,f2,f3,.pointer (some ⟨B,0,none⟩),f5,f6,f7,f8,f9,u10,u11,u12,u13,u14,u15,u16,u17,u18,u19,u20,u21,u22,u23,u24,u25,u26,u27,u28,u29,u30,u31,u32,u33,u34,u35,u36,u37,u38,u39],[]⟩)→J a' wx) (hK:∀ (a':Act) (wx:World),Met J a' wx→K' a' wx)
    (HCA:Hid (∀ wx,Ext V wx→(wx.cell? ⟨B,0,none⟩=some (.int .i64 ai)∧wx.cell? ⟨B,1,none⟩=some (.bool ab)∧wx.cell? ⟨B,2,none⟩=some (.bool an)∧wx.cell? ⟨B,3,none⟩=some (.slice ao ak ac)∧wx.cell? ⟨B,4,none⟩=some (.int .i64 af)))) :
    Code.wp Tryz.prog refSpan_r1_code (Exit.then K' Q') ⟨#[f0,f1,f2,f3,.pointer (some ⟨B,0,none⟩),f5,f6,f7,f8,f9,f10,f11,f12,f13,f14,f15,f16,f17,f18,f19,f20,f21,f22,f23,f24,f25,f26,f27,f28,f29,f30,f31,f32,f33,f34,f35,f36,f37,f38,f39],[]⟩ V:=by
  conv=>arg 2;whnf
  refine wp_region_any (by kernel_rfl) ?_
  refine region_vars (V:=V) (fr:=fun t:Nat→Value=>(⟨#[f0,f1,f2,f3,.pointer (some ⟨B,0,none⟩),f5,f6,f7,f8,f9,(t 10),(t 11),(t 12),(t 13),f14,f15,f16,f17,f18,f19,f20,f21,f22,f23,f24,f25,f26,f27,f28,f29,f30,f31,f32,f33,f34,f35,f36,f37,f38,f39],[]⟩:Act)) (m:=2) (n:=2) (dst:=fun j=>#[12,13].getD j 0) (vs:=fun k=>#[10,11].getD k 0) (src:=fun k=>#[12,13].getD k 0)
    (F:=fun j=>match j with | 0=>(fun v _=>v=.agg #[.int .i64 ai,.bool ab,.bool an,.slice ao ak ac,.int .i64 af]) | 1=>(fun v _=>v=.agg #[.int .i64 ai,.bool ab,.bool an,.slice ao ak ac,.int .i64 af]) | _=>fun _ _=>True) ?_ (fun s=>#[f0,f1,f2,f3,.pointer (some ⟨B,0,none⟩),f5,f6,f7,f8,f9,f10,f11,f12,f13,f14,f15,f16,f17,f18,f19,f20,f21,f22,f23,f24,f25,f26,f27,f28,f29,f30,f31,f32,f33,f34,f35,f36,f37,f38,f39].getD s undef) (World.drew _) ((Below.refl _ _).drew) ?_
  · refine VRegion.mk (by kernel_rfl) (by kernel_rfl) (by decide) (by decide) (by decide) ?sd ?sa ?stays ?step ?alloc ?store ?isnum
    case sd =>
      intro k hk
      match k,hk with
      | 0,_=>exact ⟨0,by decide,rfl,by kernel_rfl⟩
      | 1,_=>exact ⟨1,by decide,rfl,by kernel_rfl⟩
    case sa =>
      intro k hk
      match k,hk with
      | 0,_=>show (_:Bool)=true;kernel_rfl
      | 1,_=>show (_:Bool)=true;kernel_rfl
    case stays =>
      intro j hj
      match j,hj with
      | 0,_=>exact Stays.eq _
      | 1,_=>exact Stays.eq _
    case step =>
      intro j hj t w hE hd K hK
      match j,hj with
      | 0,_ =>
        have hc:=HCA.out w hE
        obtain ⟨c0,c1,c2,c3,c4⟩:=hc
        refine wpOp_step rfl (fun K' hK'=>?_)
        go_simp
        exact hK' _ _ (hK (.agg #[.int .i64 ai,.bool ab,.bool an,.slice ao ak ac,.int .i64 af]) w (Ext.refl _) rfl)
      | 1,_ =>
        have hc:=HCA.out w hE
        obtain ⟨c0,c1,c2,c3,c4⟩:=hc
        refine wpOp_step rfl (fun K' hK'=>?_)
        go_simp
        exact hK' _ _ (hK (.agg #[.int .i64 ai,.bool ab,.bool an,.slice ao ak ac,.int .i64 af]) w (Ext.refl _) rfl)
    case alloc =>
      intro k hk t w K hK
      match k,hk with
      | 0,_ =>
        refine wpOp_step rfl (fun K' hK'=>?_)
        go_simp
        exact hK' _ _ hK
      | 1,_ =>
        refine wpOp_step rfl (fun K' hK'=>?_)
        go_simp
        exact hK' _ _ hK
    case store =>
      intro k hk t w K g i bb nb ao N ca f hp hs hb hK
      obtain ⟨j0,b0,n0,o0,k0,c0,e0,hb⟩:=hb
      have z0:=hb.c0
      have z1:=hb.c1
      have z2:=hb.c2
      have z3:=hb.c3
      have z4:=hb.c4
      have y0:=hb.f 0
      have y1:=hb.f 1
      have y2:=hb.f 2
      have y3:=hb.f 3
      have y4:=hb.f 4
      match k,hk with
      | 0,_ =>
        have hp:t 10=.pointer (some ⟨g,0,none⟩):=hp
        have hs:t 12=.agg #[.int .i64 i,.bool bb,.bool nb,.slice ao N ca,.int .i64 f]:=hs
        rw [upd_self2 hp hs] at hK ⊢
        have e1:upd (upd t 10 (.pointer (some ⟨g,0,none⟩))) 12 (.agg #[.int .i64 i,.bool bb,.bool nb,.slice ao N ca,.int .i64 f]) 12=.agg #[.int .i64 i,.bool bb,.bool nb,.slice ao N ca,.int .i64 f]:=rfl
        have e2:upd (upd t 10 (.pointer (some ⟨g,0,none⟩))) 12 (.agg #[.int .i64 i,.bool bb,.bool nb,.slice ao N ca,.int .i64 f]) 10=.pointer (some ⟨g,0,none⟩):=rfl
        clear hp hs
        refine wpOp_step rfl (fun K' hK'=>?_)
        go_simp
        exact hK' _ _ hK
      | 1,_ =>
        have hp:t 11=.pointer (some ⟨g,0,none⟩):=hp
        have hs:t 13=.agg #[.int .i64 i,.bool bb,.bool nb,.slice ao N ca,.int .i64 f]:=hs
        rw [upd_self2 hp hs] at hK ⊢
        have e1:upd (upd t 11 (.pointer (some ⟨g,0,none⟩))) 13 (.agg #[.int .i64 i,.bool bb,.bool nb,.slice ao N ca,.int .i64 f]) 13=.agg #[.int .i64 i,.bool bb,.bool nb,.slice ao N ca,.int .i64 f]:=rfl
        have e2:upd (upd t 11 (.pointer (some ⟨g,0,none⟩))) 13 (.agg #[.int .i64 i,.bool bb,.bool nb,.slice ao N ca,.int .i64 f]) 11=.pointer (some ⟨g,0,none⟩):=rfl
        clear hp hs
        refine wpOp_step rfl (fun K' hK'=>?_)
        go_simp
        exact hK' _ _ hK
    case isnum =>
      intro k j hk hj e v w h
      match k,hk with
      | 0,_ =>
        have hall:∀ j,j<2→(#[12,13].getD 0 0)=(#[12,13].getD j 0)→j=0:=by decide
        obtain rfl:=hall j hj e
        exact ⟨_,_,_,_,_,_,_,h⟩
      | 1,_ =>
        have hall:∀ j,j<2→(#[12,13].getD 1 0)=(#[12,13].getD j 0)→j=1:=by decide
        obtain rfl:=hall j hj e
        exact ⟨_,_,_,_,_,_,_,h⟩
  · intro t g wx hE hF hg hne
    refine hK _ _ (Met.intro (hJ _ _ ?_))
    (repeat apply Exists.intro)
    refine ⟨?rel,rfl⟩
    have e0:t 12=.agg #[.int .i64 ai,.bool ab,.bool an,.slice ao ak ac,.int .i64 af]:=hF 0 (by decide)
    have e1:t 13=.agg #[.int .i64 ai,.bool ab,.bool an,.slice ao ak ac,.int .i64 af]:=hF 1 (by decide)
    obtain ⟨p0,q0,r0⟩:=hg 0 (by decide)
    obtain ⟨p1,q1,r1⟩:=hg 1 (by decide)
    obtain ⟨i1,b1,n1,o1,k1,c1,f1,m1,x1⟩:=(show NBv wx (g 0) (t 12) from r0)
    obtain ⟨i2,b2,n2,o2,k2,c2,f2,m2,x2⟩:=(show NBv wx (g 1) (t 13) from r1)
    rw [e0] at m1
    rw [e1] at m2
    cases m1
    cases m2
    exact ⟨g 0,g 1,p0,p1,x1,x2,q0,q1,hne 0 1 (by decide) (by decide) (by decide),hE⟩
open Go Go.RowKit
structure SRegion (P:Program) (ops:Array Oper) (Q:Exit→Act→World→Prop) (L:World→Prop) (fr:(Nat→Value)→Act) (m n:Nat) (dst src g:Nat→Nat) (F:Nat→Value→Prop):Prop where
  size:ops.size=m+n
  ord:Region.ordered .any ops=true
  dd:∀ i,i<m→∀ j,j<m→dst i=dst j→i=j
  gg:∀ k,k<n→∀ l,l<n→g k=g l→k=l
  sd:∀ k,k<n→∃ j,j<m∧src k=dst j∧Region.waitsFor .any ops (m+k) j=true
  keep:∀ k,k<n→∀ w w',L w→NBa w (g k)→Only (g k) w w'→L w'
  step:∀ j,j<m→∀ t w,L w→(∀ i,i<m→Region.waitsFor .any ops j i=true→F i (t (dst i)))→∀ K:Act→World→Prop,
    (∀ x,F j x→K (fr (upd t (dst j) x)) w)→wpOp P ops Q j K (fr t) w
  store:∀ k,k<n→∀ t w (K:Act→World→Prop) i bb nb ao N ca f,t (src k)=.agg #[.int .i64 i,.bool bb,.bool nb,.slice ao N ca,.int .i64 f]→NBa w (g k) →
    K (fr t) (((((w.setCell ⟨g k,0,none⟩ (.int .i64 i)).setCell ⟨g k,1,none⟩ (.bool bb)).setCell ⟨g k,2,none⟩ (.bool nb)).setCell ⟨g k,3,none⟩ (.slice ao N ca)).setCell ⟨g k,4,none⟩ (.int .i64 f))→wpOp P ops Q (m+k) K (fr t) w
  isnum:∀ k j,k<n→j<m→src k=dst j→∀ v,F j v→∃ i bb nb ao N ca f,v=.agg #[.int .i64 i,.bool bb,.bool nb,.slice ao N ca,.int .i64 f]
def SInv (L:World→Prop) (fr:(Nat→Value)→Act) (m n:Nat) (dst src g:Nat→Nat) (F:Nat→Value→Prop) (listed:Array Bool) (a:Act) (w:World):Prop :=
  ∃ t:Nat→Value,a=fr t∧L w∧(∀ j,j<m→listed.getD j false=true→F j (t (dst j)))∧(∀ k,k<n→NBa w (g k)) ∧
    (∀ k,k<n→listed.getD (m+k) false=true→(∀ j,j<m→src k=dst j→listed.getD j false=true)∧NBv w (g k) (t (src k)))
theorem region_stores {P:Program} {ops:Array Oper} {Q:Exit→Act→World→Prop} {L:World→Prop} {fr:(Nat→Value)→Act} {m n:Nat} {dst src g:Nat→Nat} {F:Nat→Value→Prop} (R:SRegion P ops Q L fr m n dst src g F) (t0:Nat→Value) (w:World) (hw:L w) (hb:∀ k,k<n→NBa w (g k))
    (hend:∀ (t:Nat→Value) w',L w'→(∀ j,j<m→F j (t (dst j)))→(∀ k,k<n→NBv w' (g k) (t (src k)))→Q .normal (fr t) w') :
    wpAny P .any ops Q ops.size (Array.replicate ops.size false) (fr t0) w:=by
  refine wpAny_inv (I:=SInv L fr m n dst src g F) ?_ ?_ R.ord _ _ _ _ (by simp) ?_ ?_
  · rintro i listed a wx hs hi ⟨t,rfl,hE,h1,h2,h4⟩
    have hlt:=ready_lt hi
    have hun:=getD_both (mem_ready.1 hi).1
    rw [R.size] at hlt
    by_cases c1:i<m
    · refine R.step i c1 t wx hE (fun j hj hw=>h1 j hj (ready_dep hi hw)) _ ?_
      intro x hF
      refine ⟨_,rfl,hE,?_,h2,?_⟩
      · intro j hj hl
        by_cases hji:j=i
        · subst hji;rw [upd_at];exact hF
        · rw [upd_ne _ _ (fun e=>hji (R.dd j hj i c1 e))]
          rcases listed_set hl with h | h
          · exact absurd h hji
          · exact h1 j hj h
      · intro k hk hl
        rcases listed_set hl with h | h
        · omega
        · obtain ⟨a3,a2⟩:=h4 k hk h
          refine ⟨fun j hj e=>getD_set_true (a3 j hj e),?_⟩
          obtain ⟨j,hj,hsj,hwf⟩:=R.sd k hk
          by_cases hji:j=i
          · exfalso
            subst hji
            have:=a3 j hj hsj
            rw [hun] at this
            cases this
          · rw [hsj,upd_ne _ _ (fun e=>hji (R.dd j hj i c1 e)),←hsj]
            exact a2
    · obtain ⟨k,rfl⟩:∃ k,i=m+k:=⟨i - m,by omega⟩
      have hk:k<n:=by omega
      obtain ⟨j,hj,hsj,hwf⟩:=R.sd k hk
      have e3:=h2 k hk
      have hF:=h1 j hj (ready_dep hi hwf)
      obtain ⟨iv,bb,nb,ao,N,ca,f,hv⟩:=R.isnum k j hk hj hsj _ hF
      rw [←hsj] at hv
      refine R.store k hk t wx _ iv bb nb ao N ca f hv e3 ?_
      have hno:=e3
      obtain ⟨i0,bb0,nb0,ao0,n0,ca0,f0,hbx⟩:=e3
      have ho:=only_set5 wx (g k) (.int .i64 iv) (.bool bb) (.bool nb) (.slice ao N ca) (.int .i64 f)
      have hst:=hbx.stored iv bb nb ao N ca f
      generalize ((((wx.setCell ⟨g k,0,none⟩ (.int .i64 iv)).setCell ⟨g k,1,none⟩ (.bool bb)).setCell ⟨g k,2,none⟩ (.bool nb)).setCell ⟨g k,3,none⟩ (.slice ao N ca)).setCell ⟨g k,4,none⟩ (.int .i64 f)=W at *
      refine ⟨t,rfl,R.keep k hk _ _ hE hno ho,?_,?_,?_⟩
      · intro j' hj' hl
        rcases listed_set hl with h | h
        · omega
        · exact h1 j' hj' h
      · intro l hl
        by_cases hlk:l=k
        · subst hlk;exact ⟨_,_,_,_,_,_,_,hst⟩
        · exact (h2 l hl).only ho (fun e=>hlk (R.gg l hl k hk e))
      · intro l hl hll
        by_cases hlk:l=k
        · subst hlk
          refine ⟨fun j' hj' e=>?_,iv,bb,nb,ao,N,ca,f,hv,hst⟩
          rw [R.dd j' hj' j hj (e.symm.trans hsj)]
          exact getD_set_true (ready_dep hi hwf)
        · rcases listed_set hll with h | h
          · omega
          · obtain ⟨a3,a2⟩:=h4 l hl h
            exact ⟨fun j' hj' e=>getD_set_true (a3 j' hj' e),a2.only ho (fun e=>hlk (R.gg l hl k hk e))⟩
  · rintro listed a wx hall ⟨t,rfl,hE,h1,h2,h4⟩
    rw [R.size] at hall
    exact hend t wx hE (fun j hj=>h1 j hj (hall j (by omega))) (fun k hk=>(h4 k hk (hall _ (by omega))).2)
  · rw [Region.left]
    exact Nat.le_trans (List.countP_le_length) (by simp)
  · have hn:∀ j,(Array.replicate ops.size false).getD j false=true→False:=fun j h=>by
      rw [getD_replicate_false] at h;cases h
    exact ⟨t0,rfl,hw,fun j _ h=>(hn j h).elim,hb,fun k _ h=>(hn _ h).elim⟩
open Go Go.RowKit
noncomputable def refSpan_r14_code:Code:=((Tryz.f51.body.bind (regOf 14)).getD .skip)
set_option maxRecDepth 100000 in
set_option maxHeartbeats 20000000 in
theorem refSpan_r14 {f0 f1 f2 f3 f4 f5 f6 f7 f12 f13 f14 f15 f16 f17 f18 f19 f20 f21 f22 f23 f24 f25 f26 f27 f28 f29 f30 f31 f32 f33 f34 f35 f36 f37 f38 f39:Value} {K':Act→World→Prop} {Q':Exit→Act→World→Prop} {li mi:Int} {lb ln mb mn:Bool} {lo mo:Option Addr} {lk lc mk mc:Nat} {lf mf:Int} {g h p q B:Nat} {W V:World} {s r:Int × Dy}
    (hJ:∀ (a':Act) (wx:World),(∃ u38 u39,NBx wx p li lb ln lo lk lc lf∧NBx wx q mi mb mn mo mk mc mf∧NumV wx (.agg #[.int .i64 li,.bool lb,.bool ln,.slice lo lk lc,.int .i64 lf]) s.1 s.2∧NumV wx (.agg #[.int .i64 mi,.bool mb,.bool mn,.slice mo mk mc,.int .i64 mf]) r.1 r.2∧Below B W wx∧a'=⟨#[f0,f1,f2,f3,f4,f5,f6,f7,.pointer (some ⟨p,0,none⟩),.pointer (some ⟨q,0,none⟩),.pointer (some ⟨g,0,none⟩),.pointer (some ⟨h,0,none⟩),f12,f13,f14,f15,f16,f17,f18,f19,f20,f21,f22,f23,f24,f25,f26,f27,f28,f29,f30,f31,f32,f33,f34,f35,f36,f37,u38,u39],[]⟩)→K' a' wx)
    (hl:NBx V g li lb ln lo lk lc lf) (hm:NBx V h mi mb mn mo mk mc mf) (hp:NBa V p) (hq:NBa V q) (hgp:g≠p) (hgq:g≠q) (hhp:h≠p) (hhq:h≠q) (hpq:p≠q) (hBp:B≤p) (hBq:B≤q) (nl:NumV V (.agg #[.int .i64 li,.bool lb,.bool ln,.slice lo lk lc,.int .i64 lf]) s.1 s.2) (nm:NumV V (.agg #[.int .i64 mi,.bool mb,.bool mn,.slice mo mk mc,.int .i64 mf]) r.1 r.2) (hB:Below B W V) :
    Code.wp Tryz.prog refSpan_r14_code (Exit.then K' Q') ⟨#[f0,f1,f2,f3,f4,f5,f6,f7,.pointer (some ⟨p,0,none⟩),.pointer (some ⟨q,0,none⟩),.pointer (some ⟨g,0,none⟩),.pointer (some ⟨h,0,none⟩),f12,f13,f14,f15,f16,f17,f18,f19,f20,f21,f22,f23,f24,f25,f26,f27,f28,f29,f30,f31,f32,f33,f34,f35,f36,f37,f38,f39],[]⟩ V:=by
  conv=>arg 2;whnf
  refine wp_region_any (by kernel_rfl) ?_
  refine region_stores (L:=fun wx=>NBx wx g li lb ln lo lk lc lf∧NBx wx h mi mb mn mo mk mc mf∧NumV wx (.agg #[.int .i64 li,.bool lb,.bool ln,.slice lo lk lc,.int .i64 lf]) s.1 s.2∧NumV wx (.agg #[.int .i64 mi,.bool mb,.bool mn,.slice mo mk mc,.int .i64 mf]) r.1 r.2∧Below B W wx) (fr:=fun t:Nat→Value=>(⟨#[f0,f1,f2,f3,f4,f5,f6,f7,.pointer (some ⟨p,0,none⟩),.pointer (some ⟨q,0,none⟩),.pointer (some ⟨g,0,none⟩),.pointer (some ⟨h,0,none⟩),f12,f13,f14,f15,f16,f17,f18,f19,f20,f21,f22,f23,f24,f25,f26,f27,f28,f29,f30,f31,f32,f33,f34,f35,f36,f37,(t 38),(t 39)],[]⟩:Act)) (m:=2) (n:=2) (dst:=fun j=>#[38,39].getD j 0) (src:=fun k=>#[38,39].getD k 0) (g:=fun k=>#[p,q].getD k 0)
    (F:=fun j=>match j with | 0=>(fun v=>v=.agg #[.int .i64 li,.bool lb,.bool ln,.slice lo lk lc,.int .i64 lf]) | 1=>(fun v=>v=.agg #[.int .i64 mi,.bool mb,.bool mn,.slice mo mk mc,.int .i64 mf]) | _=>fun _=>True) ?_ (fun s=>#[f0,f1,f2,f3,f4,f5,f6,f7,.pointer (some ⟨p,0,none⟩),.pointer (some ⟨q,0,none⟩),.pointer (some ⟨g,0,none⟩),.pointer (some ⟨h,0,none⟩),f12,f13,f14,f15,f16,f17,f18,f19,f20,f21,f22,f23,f24,f25,f26,f27,f28,f29,f30,f31,f32,f33,f34,f35,f36,f37,f38,f39].getD s undef) (World.drew _) ?_ ?_ ?_
  · refine SRegion.mk (by kernel_rfl) (by kernel_rfl) (by decide) ?gg ?sd ?keep ?step ?store ?isnum
    case gg =>
      intro k hk l hl e
      match k,l,hk,hl with
      | 0,0,_,_=>rfl
      | 1,1,_,_=>rfl
      | 0,1,_,_=>exact absurd (show p=q from e) hpq
      | 1,0,_,_=>exact absurd (show q=p from e) (Ne.symm hpq)
    case sd =>
      intro k hk
      match k,hk with
      | 0,_=>exact ⟨0,by decide,rfl,by kernel_rfl⟩
      | 1,_=>exact ⟨1,by decide,rfl,by kernel_rfl⟩
    case keep =>
      rintro k hk w w' ⟨a,b,c,d,e⟩ hb ho
      match k,hk with
      | 0,_ =>
        have ho:Only p w w':=ho
        have hb:NBa w p:=hb
        exact ⟨a.only ho hgp,b.only ho hhp,c.only_nba hb ho,d.only_nba hb ho,e.trans (ho.below hBp)⟩
      | 1,_ =>
        have ho:Only q w w':=ho
        have hb:NBa w q:=hb
        exact ⟨a.only ho hgq,b.only ho hhq,c.only_nba hb ho,d.only_nba hb ho,e.trans (ho.below hBq)⟩
    case step =>
      intro j hj t w hL hd K hK
      match j,hj with
      | 0,_ =>
        refine wpOp_step rfl (fun K' hK'=>?_)
        obtain ⟨a,b,-⟩:=hL
        have l0:=a.c0
        have l1:=a.c1
        have l2:=a.c2
        have l3:=a.c3
        have l4:=a.c4
        go_simp
        exact hK' _ _ (hK (.agg #[.int .i64 li,.bool lb,.bool ln,.slice lo lk lc,.int .i64 lf]) rfl)
      | 1,_ =>
        refine wpOp_step rfl (fun K' hK'=>?_)
        obtain ⟨a,b,-⟩:=hL
        have l0:=b.c0
        have l1:=b.c1
        have l2:=b.c2
        have l3:=b.c3
        have l4:=b.c4
        go_simp
        exact hK' _ _ (hK (.agg #[.int .i64 mi,.bool mb,.bool mn,.slice mo mk mc,.int .i64 mf]) rfl)
    case store =>
      intro k hk t w K i bb nb ao N ca f hs hb hK
      match k,hk with
      | 0,_ =>
        have hK:K _ (((((w.setCell ⟨p,0,none⟩ (.int .i64 i)).setCell ⟨p,1,none⟩ (.bool bb)).setCell ⟨p,2,none⟩ (.bool nb)).setCell ⟨p,3,none⟩ (.slice ao N ca)).setCell ⟨p,4,none⟩ (.int .i64 f)):=hK
        have hs:t 38=.agg #[.int .i64 i,.bool bb,.bool nb,.slice ao N ca,.int .i64 f]:=hs
        obtain ⟨j0,b0,n0,o0,k0,c0,e0,hb⟩:=(show NBa w p from hb)
        have z0:=hb.c0
        have z1:=hb.c1
        have z2:=hb.c2
        have z3:=hb.c3
        have z4:=hb.c4
        have y0:=hb.f 0
        have y1:=hb.f 1
        have y2:=hb.f 2
        have y3:=hb.f 3
        have y4:=hb.f 4
        rw [upd_self hs] at hK ⊢
        have e1:upd t 38 (.agg #[.int .i64 i,.bool bb,.bool nb,.slice ao N ca,.int .i64 f]) 38=.agg #[.int .i64 i,.bool bb,.bool nb,.slice ao N ca,.int .i64 f]:=rfl
        clear hs
        refine wpOp_step rfl (fun K' hK'=>?_)
        go_simp
        exact hK' _ _ hK
      | 1,_ =>
        have hK:K _ (((((w.setCell ⟨q,0,none⟩ (.int .i64 i)).setCell ⟨q,1,none⟩ (.bool bb)).setCell ⟨q,2,none⟩ (.bool nb)).setCell ⟨q,3,none⟩ (.slice ao N ca)).setCell ⟨q,4,none⟩ (.int .i64 f)):=hK
        have hs:t 39=.agg #[.int .i64 i,.bool bb,.bool nb,.slice ao N ca,.int .i64 f]:=hs
        obtain ⟨j0,b0,n0,o0,k0,c0,e0,hb⟩:=(show NBa w q from hb)
        have z0:=hb.c0
        have z1:=hb.c1
        have z2:=hb.c2
        have z3:=hb.c3
        have z4:=hb.c4
        have y0:=hb.f 0
        have y1:=hb.f 1
        have y2:=hb.f 2
        have y3:=hb.f 3
        have y4:=hb.f 4
        rw [upd_self hs] at hK ⊢
        have e1:upd t 39 (.agg #[.int .i64 i,.bool bb,.bool nb,.slice ao N ca,.int .i64 f]) 39=.agg #[.int .i64 i,.bool bb,.bool nb,.slice ao N ca,.int .i64 f]:=rfl
        clear hs
        refine wpOp_step rfl (fun K' hK'=>?_)
        go_simp
        exact hK' _ _ hK
    case isnum =>
      intro k j hk hj e v h
      match k,j,hk,hj with
      | 0,0,_,_=>exact ⟨_,_,_,_,_,_,_,h⟩
      | 1,1,_,_=>exact ⟨_,_,_,_,_,_,_,h⟩
      | 0,1,_,_=>exact absurd (show (38:Nat)=39 from e) (by decide)
      | 1,0,_,_=>exact absurd (show (39:Nat)=38 from e) (by decide)
  · have dr:Ext V V.drew:=(Below.refl _ _).drew
    exact ⟨hl.ext dr,hm.ext dr,nl.ext dr,nm.ext dr,hB.trans (Below.mono dr (by have:=hp.lt;omega))⟩
  · intro k hk
    have dr:Ext V V.drew:=(Below.refl _ _).drew
    match k,hk with
    | 0,_=>exact (show NBa V p from hp).ext dr
    | 1,_=>exact (show NBa V q from hq).ext dr
  · rintro t wx ⟨a,b,c,d,e⟩ hF hg
    have e0:t 38=.agg #[.int .i64 li,.bool lb,.bool ln,.slice lo lk lc,.int .i64 lf]:=hF 0 (by decide)
    have e1:t 39=.agg #[.int .i64 mi,.bool mb,.bool mn,.slice mo mk mc,.int .i64 mf]:=hF 1 (by decide)
    have g0:NBv wx p (t 38):=hg 0 (by decide)
    have g1:NBv wx q (t 39):=hg 1 (by decide)
    obtain ⟨i1,b1,n1,o1,k1,c1,v1,m1,x1⟩:=g0
    obtain ⟨i2,b2,n2,o2,k2,c2,v2,m2,x2⟩:=g1
    rw [e0] at m1
    rw [e1] at m2
    cases m1
    cases m2
    exact hJ _ _ ⟨_,_,x1,x2,c,d,e,rfl⟩
end Go.Proofs.YtkomhemjodbkpaaGreatDoor
