import Derived.Test.YtkomhemjodbkpaaGreatDoorIExLawU20
import Derived.Test.YtkomhemjodbkpaaGreatDoorIExLawU8
import Derived.Test.YtkomhemjodbkpaaGreatDoorIExLawU10
import Derived.Test.YtkomhemjodbkpaaGreatDoorIExLawU17
import Derived.Test.YtkomhemjodbkpaaGreatDoorIExLawU13
import Derived.Test.YtkomhemjodbkpaaGreatDoorIExLawU19
import Derived.Test.YtkomhemjodbkpaaGreatDoorIExLawU9
namespace Go.Proofs.YtkomhemjodbkpaaGreatDoor
open Go.RowKit
theorem aligned_cmp {d d':Dy} {X Y E:Int} (h:Aligned d d' X Y E):sgn3 X Y=sgn3 (sc d) (sc d'):=by
  obtain ⟨_,_,h1,h2,_,_⟩:=h
  rw [h1,h2,sgn3_common]
set_option maxRecDepth 100000 in
set_option maxHeartbeats 4000000 in
theorem refDCmp_any (u v:Value) (d d':Dy) (w:World) (hu:Dl w u d) (hv:Dl w v d') (hT:Table w) :
    Calls Tryz.prog 137 #[u,v] w fun e w'=>CmpOut d d' e∧Ext w w':=by
  have hu0:=hu
  have hv0:=hv
  obtain ⟨ub,un,uo,uk,uc,_,uf,rfl,-⟩:=hu0
  obtain ⟨vb,vn,vo,vk,vc,_,vf,rfl,-⟩:=hv0
  go_enter Tryz.func137,Tryz.ntmps137
  go_upto_region 1 with fail
  obtain ⟨W,hW,hB,hbx,hby,hz⟩:=boxes_two_d w ub un uo uk uc uf vb vn vo vk vc vf
  rw [←hW]
  clear hW
  have hu:=hu.ext hB
  have hv:=hv.ext hB
  have HT0:=Lib.hid hT
  have hT:=hT.below hB
  generalize hBe:w.heap.size=B at *
  have HBe:=Lib.hid hBe;clear hBe
  go_cut [] from 9 (fun wx=>∃ xb xn xo xk xc xe yb yn yo yk yc ye,Dn wx (.agg #[.bool xb,.bool xn,.slice xo xk xc,.int .i64 xe]) d∧Dn wx (.agg #[.bool yb,.bool yn,.slice yo yk yc,.int .i64 ye]) d' ∧
    DBox wx B xb xn xo xk xc xe∧DBox wx (B+1) yb yn yo yk yc ye∧Below B w wx∧(∀ k,B+1<k→k<W.heap.size→wx.heap[k]?=W.heap[k]?)∧W.heap.size≤wx.heap.size)
  case first =>
    have k0:=hbx.c0
    have k1:=hbx.c1
    have k2:=hbx.c2
    have k3:=hbx.c3
    have l0:=hby.c0
    have l1:=hby.c1
    have l2:=hby.c2
    have l3:=hby.c3
    go_region_with (first
      | (go_at_call 131;refine (refDNorm_any _ _ _ (by exact hu.ext (by exact (Below.refl _ _).drew)) (by exact hT.below (by exact (Below.refl _ _).drew))).mono ?_;rintro e w1 ⟨r1,rfl,hr1,hw1⟩;have ex1:Ext W w1:=Ext.trans (by exact (Below.refl _ _).drew) hw1;obtain ⟨xb,xn,xo,xk,xc,xe,rfl⟩:=hr1.parts;have fb:=hby.ext ex1;have h0:=fb.c0;have h1:=fb.c1;have h2:=fb.c2;have h3:=fb.c3)
      | (go_at_call 131;refine (refDNorm_any _ _ _ (by exact hv.ext ex1) (by exact hT.below ex1)).mono ?_;rintro e w2 ⟨r2,rfl,hr2,hw2⟩;have ex2:Ext W w2:=Ext.trans ex1 hw2;obtain ⟨yb,yn,yo,yk,yc,ye,rfl⟩:=hr2.parts;have hr1:=hr1.ext hw2;clear h0 h1 h2 h3;have fa:=hbx.ext ex2;have fb:=hby.ext ex2;have a0:=fa.c0;have a1:=fa.c1;have a2:=fa.c2;have a3:=fa.c3;have b0:=fb.c0;have b1:=fb.c1;have b2:=fb.c2;have b3:=fb.c3;have g0:=fa.f 0;have g1:=fa.f 1;have g2:=fa.f 2;have g3:=fa.f 3;have h0:=fb.f 0;have h1:=fb.f 1;have h2:=fb.f 2;have h3:=fb.f 3))
    all_goals
      go_wp2
      go_meet
    all_goals
      clear a0 a1 a2 a3 b0 b1 b2 b3 g0 g1 g2 g3 h0 h1 h2 h3 k0 k1 k2 k3 l0 l1 l2 l3
      obtain ⟨hB2,hB2'⟩:=bnext hB (by omega) ex2
      obtain ⟨Z,hZ,z1,z2,z3,z4,z5,z6,z7⟩:=two_dyads fa fb (by omega) (Nat.le_refl B) (Nat.le_succ B) hr1 hr2 hB2
      rw [←hZ]
      exact ⟨_,_,_,_,_,_,_,_,_,_,_,_,z1,z2,z4,z5,z3,fun k hk1 hk2=>by rw [z6 k (by omega) (by omega)];exact Below.block ex2 k hk2,by rw [z7];exact Below.size ex2⟩
  case rest =>
    obtain ⟨xb,xn,xo,xk,xc,xe,yb,yn,yo,yk,yc,ye,hx,hy,bx,bY,hB1,hkeep,hzc⟩:=hcut
    have hT1:=(show Table w from HT0.out).below (w':=wc) (by rw [HBe.out];exact hB1)
    have HT:=Lib.hid hT1
    have hzz:B+2≤wc.heap.size:=by omega
    clear hT1 hbx hby hu hv hT hB hkeep
    have k0:=bx.c0
    have k1:=bx.c1
    have k2:=bx.c2
    have k3:=bx.c3
    have l0:=bY.c0
    have l1:=bY.c1
    have l2:=bY.c2
    have l3:=bY.c3
    cases d with
    | none =>
      obtain rfl:=dn_none hx
      go_wp2
      go_ret2
      refine ⟨Or.inl ⟨Or.inl rfl,rfl⟩,?_⟩
      show Below _ _ _;rw [HBe.out];exact hB1
    | some p =>
      obtain ⟨m,f⟩:=p
      obtain ⟨rfl,rfl,hm⟩:=dn_some hx
      cases d' with
      | none =>
        obtain rfl:=dn_none hy
        go_wp2
        go_ret2
        refine ⟨Or.inl ⟨Or.inr rfl,rfl⟩,?_⟩
        show Below _ _ _;rw [HBe.out];exact hB1
      | some q =>
        obtain ⟨m',f'⟩:=q
        obtain ⟨rfl,rfl,hm'⟩:=dn_some hy
        have hnx:=hx.1
        have hny:=hy.1
        clear hx hy
        go_wp2_with fail
        refine (refAlign_any _ _ _ _ _ _ _ _ _ _ _ _ _ hm hm' hnx hny).mono ?_
        rintro e w1 ⟨an,ao',ak,ac,bn,bo',bk,bc,X,Y,E,rfl,hX,hY,hAl,hak,hbk,hw1⟩
        have HAL:=Lib.hid (aligned_cmp hAl)
        obtain ⟨hB2,hB2'⟩:=bnext hB1 (by omega) hw1
        clear k0 k1 k2 k3 l0 l1 l2 l3 hm hm' hnx hny hAl hB1 bx bY hw1
        go_upto_region 5 with fail
        obtain ⟨V,hV,hv,e1,e2⟩:=boxes_bb w1 an ao' ak ac bn bo' bk bc
        rw [←hV]
        clear hV
        have hX:=hX.below hv
        have hY:=hY.below hv
        obtain ⟨hB3,hB3'⟩:=bnext hB2 (by omega) hv
        have k0:=e1.c0
        have k1:=e1.c1
        have l0:=e2.c0
        have l1:=e2.c1
        clear hv hB2
        generalize w1.heap.size=D at *
        go_wp2_with fail
        refine (refCmp_any _ _ _ _ _ _ _ _ _ _ _ hX hY hak hbk).mono ?_
        rintro e w2 ⟨rfl,hw2⟩
        obtain ⟨hB4,-⟩:=bnext hB3 (by omega) hw2
        clear k0 k1 l0 l1 hw2 hB3
        go_wp2
        go_ret2
        refine ⟨Or.inr ⟨by simp,by simp,?_⟩,?_⟩
        · rw [←HAL.out];rfl
        · show Below _ _ _;rw [HBe.out];exact hB4
open Go.RowKit
set_option maxRecDepth 100000 in
set_option maxHeartbeats 2000000 in
theorem refValid_any (lo hi:Nat) (hl:lo<18446744073709551616) (hh:hi<18446744073709551616) (b:Bool) (hb:validF lo hi=b) (w:World) :
    Calls Tryz.prog 6 #[.agg #[.int .u64 (lo:Int),.int .u64 (hi:Int)]] w fun e w'=>e=.returned (.bool b)∧Ext w w':=by
  obtain ⟨s,ok,hc⟩:=fcmp_some lo hi
  have C:=Lib.hid (refFCmp_any lo hi hl hh s ok hc)
  have hv:=valid_sgn hc
  rw [hb] at hv
  have e1:decide (lo≠9218868437227405312)=((lo:Int) != 9218868437227405312):=by
    by_cases h:lo=9218868437227405312
    · subst h;rfl
    · rw [decide_eq_true h];simp;omega
  have e2:decide (hi≠18442240474082181120)=((hi:Int) != 18442240474082181120):=by
    by_cases h:hi=18442240474082181120
    · subst h;rfl
    · rw [decide_eq_true h];simp;omega
  rw [e1,e2] at hv
  obtain ⟨p,hp⟩:∃ p,((lo:Int) != 9218868437227405312)=p:=⟨_,rfl⟩
  obtain ⟨q,hq⟩:∃ q,((hi:Int) != 18442240474082181120)=q:=⟨_,rfl⟩
  rw [hp,hq] at hv
  have HV:=Lib.hid hv
  clear hv hc hl hh hb e1 e2
  go_enter Tryz.func6,Tryz.ntmps6
  go_wp2_with fail
  obtain ⟨W,hW,hB,hx,hsz⟩:=ibox_new w lo hi
  rw [←hW]
  clear hW
  have c0:=hx.c0
  have c1:=hx.c1
  have HB:=Lib.hid hB
  generalize w.heap.size=B at hx c0 c1 ⊢
  clear hB hsz
  go_wp2_with fail
  refine (C.out _).mono ?_
  rintro r w1 ⟨rfl,hE⟩
  have hx:=hx.below hE
  have EX:=Lib.hid (HB.out.trans hE)
  clear c0 c1 hE
  have c0:=hx.c0
  have c1:=hx.c1
  cases ok with
  | false =>
    go_wp2
    go_ret
    exact ⟨ret_bool (by rw [←HV.out];rfl),EX.out⟩
  | true =>
    by_cases hs:s≤0
    · have HS:=Lib.hid (show decide (s≤0)=true from decide_eq_true hs)
      cases p with
      | false =>
        go_wp2
        go_ret
        exact ⟨ret_bool (by rw [←HV.out,HS.out];rfl),EX.out⟩
      | true =>
        cases q with
        | false =>
          go_wp2
          go_ret
          exact ⟨ret_bool (by rw [←HV.out,HS.out];rfl),EX.out⟩
        | true =>
          go_wp2
          go_ret
          exact ⟨ret_bool (by rw [←HV.out,HS.out];rfl),EX.out⟩
    · have HS:=Lib.hid (show decide (s≤0)=false from decide_eq_false hs)
      go_wp2
      go_ret
      exact ⟨ret_bool (by rw [←HV.out,HS.out];rfl),EX.out⟩
open Go.RowKit
def NBx (W:World) (g:Nat) (i:Int) (bb nb:Bool) (ao:Option Addr) (n ca:Nat) (e:Int):Prop:=W.heap[g]?=some (.cells #[.int .i64 i,.bool bb,.bool nb,.slice ao n ca,.int .i64 e] 56 (0,0))
section
variable {W w w':World} {g:Nat} {bb nb:Bool} {ao:Option Addr} {n ca:Nat} {i e:Int}
theorem NBx.c0 (h:NBx W g i bb nb ao n ca e):W.cell? ⟨g,0,none⟩=some (.int .i64 i):=by rw [cell_of_row W g 0 _ _ _ h];rfl
theorem NBx.c1 (h:NBx W g i bb nb ao n ca e):W.cell? ⟨g,1,none⟩=some (.bool bb):=by rw [cell_of_row W g 1 _ _ _ h];rfl
theorem NBx.c2 (h:NBx W g i bb nb ao n ca e):W.cell? ⟨g,2,none⟩=some (.bool nb):=by rw [cell_of_row W g 2 _ _ _ h];rfl
theorem NBx.c3 (h:NBx W g i bb nb ao n ca e):W.cell? ⟨g,3,none⟩=some (.slice ao n ca):=by rw [cell_of_row W g 3 _ _ _ h];rfl
theorem NBx.c4 (h:NBx W g i bb nb ao n ca e):W.cell? ⟨g,4,none⟩=some (.int .i64 e):=by rw [cell_of_row W g 4 _ _ _ h];rfl
theorem NBx.f (h:NBx W g i bb nb ao n ca e) (o:Nat):W.frozen? ⟨g,o,none⟩=false:=by
  unfold NBx at h;simp [World.frozen?,h]
theorem NBx.lt (h:NBx w g i bb nb ao n ca e):g<w.heap.size:=lt_of_cell h.c0
theorem NBx.below (h:NBx w g i bb nb ao n ca e) (hb:Below w.heap.size w w'):NBx w' g i bb nb ao n ca e:=by
  unfold NBx;rw [hb.block g h.lt];exact h
theorem NBx.drew (h:NBx w g i bb nb ao n ca e):NBx w.drew g i bb nb ao n ca e:=h
end
theorem NBx.new (w:World) (i:Int) (bb nb:Bool) (ao:Option Addr) (n ca:Nat) (e:Int):NBx (w.alloc (.cells #[.int .i64 i,.bool bb,.bool nb,.slice ao n ca,.int .i64 e] 56)) w.heap.size i bb nb ao n ca e:=heap_alloc_new w _
theorem nbx_new (w:World) (i:Int) (bb nb:Bool) (ao:Option Addr) (n ca:Nat) (e:Int) :
    ∃ W,W=w.alloc (.cells #[.int .i64 i,.bool bb,.bool nb,.slice ao n ca,.int .i64 e] 56)∧Ext w W∧NBx W w.heap.size i bb nb ao n ca e∧w.heap.size+1≤W.heap.size :=
  ⟨_,rfl,(Below.refl _ w).alloc (Nat.le_refl _) _,NBx.new w i bb nb ao n ca e,by simp⟩
theorem nbx_two (w:World) (i:Int) (bb nb:Bool) (ao:Option Addr) (n ca:Nat) (e:Int) (j:Int) (cb mb:Bool) (bo:Option Addr) (m cc:Nat) (f:Int) :
    ∃ W,W=(w.alloc (.cells #[.int .i64 i,.bool bb,.bool nb,.slice ao n ca,.int .i64 e] 56)).alloc (.cells #[.int .i64 j,.bool cb,.bool mb,.slice bo m cc,.int .i64 f] 56)∧Ext w W∧NBx W w.heap.size i bb nb ao n ca e∧NBx W (w.heap.size+1) j cb mb bo m cc f:=by
  refine ⟨_,rfl,((Below.refl _ w).alloc (Nat.le_refl _) _).alloc (by simp) _,?_,?_⟩
  · exact (NBx.new w i bb nb ao n ca e).below ((Below.refl _ _).alloc (Nat.le_refl _) _)
  · have:=NBx.new (w.alloc (.cells #[.int .i64 i,.bool bb,.bool nb,.slice ao n ca,.int .i64 e] 56)) j cb mb bo m cc f
    simpa using this
theorem NBx.stored {w:World} {g:Nat} {i:Int} {bb nb:Bool} {ao:Option Addr} {n ca:Nat} {e:Int} (h:NBx w g i bb nb ao n ca e) (j:Int) (mbb mb:Bool) (bo:Option Addr) (m cb:Nat) (f:Int) :
    NBx (((((w.setCell ⟨g,0,none⟩ (.int .i64 j)).setCell ⟨g,1,none⟩ (.bool mbb)).setCell ⟨g,2,none⟩ (.bool mb)).setCell ⟨g,3,none⟩ (.slice bo m cb)).setCell ⟨g,4,none⟩ (.int .i64 f)) g j mbb mb bo m cb f:=by
  unfold NBx at h ⊢
  simp [World.setCell,Array.getElem?_modify,h]
theorem only_set5 (w:World) (g:Nat) (u v x y z:Value):Only g w (((((w.setCell ⟨g,0,none⟩ u).setCell ⟨g,1,none⟩ v).setCell ⟨g,2,none⟩ x).setCell ⟨g,3,none⟩ y).setCell ⟨g,4,none⟩ z):=(((((Only.refl g w).setCell _ _).setCell _ _).setCell _ _).setCell _ _).setCell _ _
theorem At.only_nbx {w w':World} {g:Nat} {i:Int} {bb nb:Bool} {ao ro:Option Addr} {n cap:Nat} {f:Int} {zs:List Int} (hx:NBx w g i bb nb ao n cap f) (h:At w ro zs) (ho:Only g w w'):At w' ro zs:=by
  intro h0
  obtain ⟨b,off,e,hc⟩:=h h0
  refine ⟨b,off,e,fun j hj=>?_⟩
  have hne:b≠g:=by
    rintro rfl
    have:=hc j hj
    rw [cell_of_row w b (off+j) _ _ _ hx] at this
    match off+j,this with
    | 0,this=>simp at this
    | 1,this=>simp at this
    | 2,this=>simp at this
    | 3,this=>simp at this
    | 4,this=>simp at this
    | k+5,this=>simp at this
  rw [World.cell?_of_block (w:=w) (ho.block b hne)]
  exact hc j hj
theorem Dn.only_nbx {w w':World} {g:Nat} {i:Int} {bb nb:Bool} {ao:Option Addr} {n cap:Nat} {f:Int} {v:Value} {d:Dy} (h:Dn w v d) (hx:NBx w g i bb nb ao n cap f) (ho:Only g w w'):Dn w' v d:=by
  obtain ⟨h0,nb',ao',n',ca',h1,h2⟩:=h
  exact ⟨h0,nb',ao',n',ca',h1,⟨h2.neg,⟨h2.sl.len,h2.sl.cap,h2.sl.big,h2.sl.wf,h2.sl.cells.only_nbx hx ho⟩⟩⟩
def NumV (w:World) (v:Value) (i:Int) (d:Dy):Prop:=∃ bb nb ao n ca e,v=.agg #[.int .i64 i,.bool bb,.bool nb,.slice ao n ca,.int .i64 e]∧Dn w (.agg #[.bool bb,.bool nb,.slice ao n ca,.int .i64 e]) d
theorem NumV.ext {w w':World} {v:Value} {i:Int} {d:Dy} (h:NumV w v i d) (he:Ext w w'):NumV w' v i d:=by
  obtain ⟨bb,nb,ao,n,ca,e,h1,h2⟩:=h
  exact ⟨bb,nb,ao,n,ca,e,h1,h2.ext he⟩
theorem numV_stored {w w0:World} {g B:Nat} {bb nb mbb mb:Bool} {ao bo:Option Addr} {n ca m cb:Nat} {e i j f:Int} {d:Dy} (hx:NBx w g i bb nb ao n ca e) (h:Dn w (.agg #[.bool mbb,.bool mb,.slice bo m cb,.int .i64 f]) d) (hb:Below B w0 w) (hg:B≤g) :
    NumV (((((w.setCell ⟨g,0,none⟩ (.int .i64 j)).setCell ⟨g,1,none⟩ (.bool mbb)).setCell ⟨g,2,none⟩ (.bool mb)).setCell ⟨g,3,none⟩ (.slice bo m cb)).setCell ⟨g,4,none⟩ (.int .i64 f)) (.agg #[.int .i64 j,.bool mbb,.bool mb,.slice bo m cb,.int .i64 f]) j d ∧
    Below B w0 (((((w.setCell ⟨g,0,none⟩ (.int .i64 j)).setCell ⟨g,1,none⟩ (.bool mbb)).setCell ⟨g,2,none⟩ (.bool mb)).setCell ⟨g,3,none⟩ (.slice bo m cb)).setCell ⟨g,4,none⟩ (.int .i64 f)) :=
  ⟨⟨_,_,_,_,_,_,rfl,h.only_nbx hx (only_set5 _ _ _ _ _ _ _)⟩,hb.trans ((only_set5 _ _ _ _ _ _ _).below hg)⟩
def numI (f:Nat):Int:=if f=9218868437227405312 then 1 else if f=18442240474082181120 then -1 else 0
def numD (f:Nat):Dy:=if f=9218868437227405312 then some (0,0) else if f=18442240474082181120 then some (0,0) else fdy f
set_option maxRecDepth 100000 in
set_option maxHeartbeats 2000000 in
theorem refNumOf_any (f:Nat) (hf:f<18446744073709551616) (i:Int) (d:Dy) (hi:numI f=i) (hd:numD f=d) (w:World) (hT:Table w) :
    Calls Tryz.prog 48 #[.int .u64 (f:Int)] w fun e w'=>∃ v,e=.returned v∧NumV w' v i d∧Ext w w':=by
  have HT:=Lib.hid hT
  have C:=Lib.hid (fun w hT=>refOf_any f hf w hT)
  clear hT
  unfold numI at hi
  unfold numD at hd
  by_cases h1:f=9218868437227405312
  · subst h1
    simp only [if_true] at hi hd
    subst hi hd
    clear hf C
    go_enter Tryz.func48,Tryz.ntmps48
    go_upto_region 1 with fail
    obtain ⟨W,hW,hB,r1,hz⟩:=nbx_new w 0 false false none 0 0 0
    rw [←hW]
    clear hW
    have HT:=Lib.hid (HT.out.below hB)
    have hB:Below w.heap.size w W:=hB
    generalize hBe:w.heap.size=B at *
    have HBe:=Lib.hid hBe
    clear hBe hz
    have q0:=r1.c0
    have q1:=r1.c1
    have q2:=r1.c2
    have q3:=r1.c3
    have q4:=r1.c4
    have f0:=r1.f 0
    have f1:=r1.f 1
    have f2:=r1.f 2
    have f3:=r1.f 3
    have f4:=r1.f 4
    have hres:=numV_stored (j:=1) r1 (dn_zero W) hB (Nat.le_refl _)
    have z:=r1.stored 1 false false none 0 0 0
    have z0:=z.c0
    have z1:=z.c1
    have z2:=z.c2
    have z3:=z.c3
    have z4:=z.c4
    have HRES:=Lib.hid hres
    clear hres z
    go_wp2
    refine bodyPost_ret (v:=.agg #[.int .i64 1,.bool false,.bool false,.slice none 0 0,.int .i64 0]) (by simp [results,Tryz.results48,go_sem,z0,z1,z2,z3,z4]) rfl ⟨_,rfl,HRES.out.1,?_⟩
    show Below _ _ _;rw [HBe.out];exact HRES.out.2
  · rw [if_neg h1] at hi hd
    by_cases h2:f=18442240474082181120
    · subst h2
      simp only [if_true] at hi hd
      subst hi hd
      clear hf C h1
      go_enter Tryz.func48,Tryz.ntmps48
      go_upto_region 1 with fail
      obtain ⟨W,hW,hB,r1,hz⟩:=nbx_new w 0 false false none 0 0 0
      rw [←hW]
      clear hW
      have HT:=Lib.hid (HT.out.below hB)
      have hB:Below w.heap.size w W:=hB
      generalize hBe:w.heap.size=B at *
      have HBe:=Lib.hid hBe
      clear hBe hz
      have q0:=r1.c0
      have q1:=r1.c1
      have q2:=r1.c2
      have q3:=r1.c3
      have q4:=r1.c4
      have f0:=r1.f 0
      have f1:=r1.f 1
      have f2:=r1.f 2
      have f3:=r1.f 3
      have f4:=r1.f 4
      have hres:=numV_stored (j:=(-1)) r1 (dn_zero W) hB (Nat.le_refl _)
      have z:=r1.stored (-1) false false none 0 0 0
      have z0:=z.c0
      have z1:=z.c1
      have z2:=z.c2
      have z3:=z.c3
      have z4:=z.c4
      have HRES:=Lib.hid hres
      clear hres z
      go_wp2
      refine bodyPost_ret (v:=.agg #[.int .i64 (-1),.bool false,.bool false,.slice none 0 0,.int .i64 0]) (by simp [results,Tryz.results48,go_sem,z0,z1,z2,z3,z4]) rfl ⟨_,rfl,HRES.out.1,?_⟩
      show Below _ _ _;rw [HBe.out];exact HRES.out.2
    · rw [if_neg h2] at hi hd
      subst hi hd
      have b1:((f:Int) == 9218868437227405312)=false:=by rw [beq_eq_false_iff_ne];omega
      have b2:((f:Int) == 18442240474082181120)=false:=by rw [beq_eq_false_iff_ne];omega
      clear h1 h2 hf
      go_enter Tryz.func48,Tryz.ntmps48
      go_upto_region 1 with fail
      obtain ⟨W,hW,hB,r1,hz⟩:=nbx_new w 0 false false none 0 0 0
      rw [←hW]
      clear hW
      have HT:=Lib.hid (HT.out.below hB)
      have hB:Below w.heap.size w W:=hB
      generalize hBe:w.heap.size=B at *
      have HBe:=Lib.hid hBe
      clear hBe hz
      go_wp2_with fail
      refine (C.out _ HT.out).mono ?_
      rintro e w5 ⟨v,rfl,hr2,hw5⟩
      have c1:=r1.below hw5
      obtain ⟨hB4,hB4'⟩:=bnext hB (Nat.le_of_lt r1.lt) hw5
      obtain ⟨rb,rn,ro2,rk,rc,re,rfl⟩:=hr2.parts
      clear r1 hw5 hB
      have q0:=c1.c0
      have q1:=c1.c1
      have q2:=c1.c2
      have q3:=c1.c3
      have q4:=c1.c4
      have f0:=c1.f 0
      have f1:=c1.f 1
      have f2:=c1.f 2
      have f3:=c1.f 3
      have f4:=c1.f 4
      have hres:=numV_stored (j:=0) c1 hr2 hB4 (Nat.le_refl _)
      have z:=c1.stored 0 rb rn ro2 rk rc re
      have z0:=z.c0
      have z1:=z.c1
      have z2:=z.c2
      have z3:=z.c3
      have z4:=z.c4
      have HRES:=Lib.hid hres
      clear hres z
      go_wp2
      refine bodyPost_ret (v:=.agg #[.int .i64 0,.bool rb,.bool rn,.slice ro2 rk rc,.int .i64 re]) (by simp [results,Tryz.results48,go_sem,z0,z1,z2,z3,z4]) rfl ⟨_,rfl,HRES.out.1,?_⟩
      show Below _ _ _;rw [HBe.out];exact HRES.out.2
def lessN (i:Int) (d:Dy) (j:Int) (d':Dy):Bool:=if i≠0∨j≠0 then decide (i<j) else d.isSome&&d'.isSome&&decide (sc d<sc d')
set_option maxRecDepth 100000 in
set_option maxHeartbeats 4000000 in
theorem refLess_any (u v:Value) (i j:Int) (d d':Dy) (b:Bool) (hb:lessN i d j d'=b) (w:World) (hu:NumV w u i d) (hv:NumV w v j d') (hT:Table w) :
    Calls Tryz.prog 94 #[u,v] w fun e w'=>e=.returned (.bool b)∧Ext w w':=by
  obtain ⟨ub,un,uo,uk,uc,uf,rfl,hu⟩:=hu
  obtain ⟨vb,vn,vo,vk,vc,vf,rfl,hv⟩:=hv
  have HT:=Lib.hid hT
  clear hT
  unfold lessN at hb
  go_enter Tryz.func94,Tryz.ntmps94
  go_upto_region 1 with fail
  obtain ⟨W,hW,hB,hx,hy⟩:=nbx_two w i ub un uo uk uc uf j vb vn vo vk vc vf
  rw [←hW]
  clear hW
  have HB:=Lib.hid hB
  have HT:=Lib.hid (HT.out.below hB)
  have hu:=hu.ext hB
  have hv:=hv.ext hB
  generalize w.heap.size=B at hx hy ⊢
  clear hB
  have x0:=hx.c0
  have x1:=hx.c1
  have x2:=hx.c2
  have x3:=hx.c3
  have x4:=hx.c4
  have y0:=hy.c0
  have y1:=hy.c1
  have y2:=hy.c2
  have y3:=hy.c3
  have y4:=hy.c4
  by_cases hi:i=0
  · have bi:(i != 0)=false:=by simp [hi]
    by_cases hj:j=0
    · have bj:(j != 0)=false:=by simp [hj]
      rw [if_neg (by simp [hi,hj])] at hb
      have HBB:=Lib.hid hb
      clear hb hi hj
      go_wp2_with fail
      refine (refDCmp_any _ _ d d' _ hu.dl hv.dl HT.out).mono ?_
      rintro e w1 ⟨hc,hw⟩
      have EX:=Lib.hid (HB.out.trans hw)
      clear x0 x1 x2 x3 x4 y0 y1 y2 y3 y4 hw hx hy hu hv
      rcases hc with ⟨hn,rfl⟩ | ⟨hn1,hn2,rfl⟩
      · have HF:=Lib.hid (show false=b by rw [←HBB.out];rcases hn with rfl | rfl <;> simp)
        clear hn
        go_wp2
        go_ret
        exact ⟨ret_bool (by first | exact HF.out | simpa using HF.out),EX.out⟩
      · have HF:=Lib.hid (show decide (sgn3 (sc d) (sc d')<0)=b by
          rw [←HBB.out]
          cases d with
          | none=>exact absurd rfl hn1
          | some p=>cases d' with
            | none=>exact absurd rfl hn2
            | some q =>
              show decide (sgn3 (sc (some p)) (sc (some q))<0)=decide (sc (some p)<sc (some q))
              generalize sc (some p)=X
              generalize sc (some q)=Y
              apply decide_eq_decide.2
              unfold sgn3;split
              · simp;assumption
              · split <;> simp <;> omega)
        generalize sgn3 (sc d) (sc d')=t at *
        clear hn1 hn2
        go_wp2
        go_ret
        exact ⟨ret_bool (by first | exact HF.out | simpa using HF.out),EX.out⟩
    · have bj:(j != 0)=true:=by simp [hj]
      rw [if_pos (Or.inr hj)] at hb
      have HBB:=Lib.hid hb
      clear hb hi hj
      go_wp2
      go_ret
      exact ⟨ret_bool HBB.out,HB.out⟩
  · have bi:(i != 0)=true:=by simp [hi]
    rw [if_pos (Or.inl hi)] at hb
    have HBB:=Lib.hid hb
    clear hb hi
    go_wp2
    go_ret
    exact ⟨ret_bool HBB.out,HB.out⟩
open Go.RowKit
set_option maxRecDepth 100000 in
set_option maxHeartbeats 8000000 in
theorem iadd_no (a b c d:Nat) (ha:a<18446744073709551616) (hb:b<18446744073709551616) (hc:c<18446744073709551616) (hd:d<18446744073709551616) (h:validF a b=false∨validF c d=false) (w:World) :
    Calls Tryz.prog 11 #[.agg #[.int .u64 (a:Int),.int .u64 (b:Int)],.agg #[.int .u64 (c:Int),.int .u64 (d:Int)]] w fun e w'=>e=.returned (.agg #[.int .u64 18442240474082181120,.int .u64 9218868437227405312])∧Ext w w':=by
  obtain ⟨p,hp⟩:∃ p,validF a b=p:=⟨_,rfl⟩
  obtain ⟨q,hq⟩:∃ q,validF c d=q:=⟨_,rfl⟩
  rw [hp,hq] at h
  have C1:=Lib.hid (ivalid_at a b ha hb rfl rfl p hp)
  have C2:=Lib.hid (ivalid_at c d hc hd rfl rfl q hq)
  clear hp hq ha hb hc hd
  go_enter Tryz.func11,Tryz.ntmps11
  go_wp2_with fail
  obtain ⟨W,hW,hB,hx,hy,hbx,hsz⟩:=ibox_three w a b c d 0 0
  rw [←hW]
  clear hW
  generalize hBe:w.heap.size=B at *
  have HBe:=Lib.hid hBe
  have HB:Hid (Below B w W):=Lib.hid (by rw [←hBe];exact hB)
  clear hBe hB hsz
  have c0:=hx.c0
  have c1:=hx.c1
  have c2:=hy.c0
  have c3:=hy.c1
  go_wp2_with fail
  refine (C1.out _).mono ?_
  rintro r w1 ⟨rfl,hE⟩
  have HB:=Lib.hid (HB.out.trans (Below.mono hE (Nat.le_of_lt hx.lt)))
  have hx:=hx.below hE
  have hy:=hy.below hE
  have hbx:=hbx.below hE
  clear c0 c1 c2 c3 hE
  have c0:=hx.c0
  have c1:=hx.c1
  have c2:=hy.c0
  have c3:=hy.c1
  cases p with
  | false =>
    go_wp2_with fail
    refine (whole_any _).mono ?_
    rintro r w9 ⟨rfl,hE⟩
    have hbx:=hbx.below hE
    have HB:=Lib.hid (HB.out.trans (Below.mono hE (Nat.le_of_lt hx.lt)))
    clear hE
    have q0:=hbx.c0
    have q1:=hbx.c1
    have f0:=hbx.f 0
    have f1:=hbx.f 1
    have z:=hbx.stored 18442240474082181120 9218868437227405312
    have z0:=z.c0
    have z1:=z.c1
    have HZ:=Lib.hid (HB.out.trans ((only_iset2 w9 (B+1+1) (.int .u64 18442240474082181120) (.int .u64 9218868437227405312)).below (by omega)))
    clear z
    go_wp2
    refine bodyPost_ret (v:=.agg #[.int .u64 18442240474082181120,.int .u64 9218868437227405312]) (by simp [results,Tryz.results11,go_sem,z0,z1]) rfl ⟨rfl,?_⟩
    show Below _ _ _
    rw [HBe.out]
    exact HZ.out
  | true =>
    go_wp2_with fail
    refine (C2.out _).mono ?_
    rintro r w2 ⟨rfl,hE⟩
    have HB:=Lib.hid (HB.out.trans (Below.mono hE (Nat.le_of_lt hx.lt)))
    have hx:=hx.below hE
    have hy:=hy.below hE
    have hbx:=hbx.below hE
    clear c0 c1 c2 c3 hE
    have c0:=hx.c0
    have c1:=hx.c1
    have c2:=hy.c0
    have c3:=hy.c1
    cases q with
    | false =>
      go_wp2_with fail
      refine (whole_any _).mono ?_
      rintro r w9 ⟨rfl,hE⟩
      have hbx:=hbx.below hE
      have HB:=Lib.hid (HB.out.trans (Below.mono hE (Nat.le_of_lt hx.lt)))
      clear hE
      have q0:=hbx.c0
      have q1:=hbx.c1
      have f0:=hbx.f 0
      have f1:=hbx.f 1
      have z:=hbx.stored 18442240474082181120 9218868437227405312
      have z0:=z.c0
      have z1:=z.c1
      have HZ:=Lib.hid (HB.out.trans ((only_iset2 w9 (B+1+1) (.int .u64 18442240474082181120) (.int .u64 9218868437227405312)).below (by omega)))
      clear z
      go_wp2
      refine bodyPost_ret (v:=.agg #[.int .u64 18442240474082181120,.int .u64 9218868437227405312]) (by simp [results,Tryz.results11,go_sem,z0,z1]) rfl ⟨rfl,?_⟩
      show Below _ _ _
      rw [HBe.out]
      exact HZ.out
    | true =>
      exact absurd h (by simp)
set_option maxRecDepth 100000 in
set_option maxHeartbeats 8000000 in
theorem imul_no (a b c d:Nat) (ha:a<18446744073709551616) (hb:b<18446744073709551616) (hc:c<18446744073709551616) (hd:d<18446744073709551616) (h:validF a b=false∨validF c d=false) (w:World) :
    Calls Tryz.prog 15 #[.agg #[.int .u64 (a:Int),.int .u64 (b:Int)],.agg #[.int .u64 (c:Int),.int .u64 (d:Int)]] w fun e w'=>e=.returned (.agg #[.int .u64 18442240474082181120,.int .u64 9218868437227405312])∧Ext w w':=by
  obtain ⟨p,hp⟩:∃ p,validF a b=p:=⟨_,rfl⟩
  obtain ⟨q,hq⟩:∃ q,validF c d=q:=⟨_,rfl⟩
  rw [hp,hq] at h
  have C1:=Lib.hid (ivalid_at a b ha hb rfl rfl p hp)
  have C2:=Lib.hid (ivalid_at c d hc hd rfl rfl q hq)
  clear hp hq ha hb hc hd
  go_enter Tryz.func15,Tryz.ntmps15
  go_wp2_with fail
  obtain ⟨W,hW,hB,hx,hy,hbx,hsz⟩:=ibox_three w a b c d 0 0
  rw [←hW]
  clear hW
  generalize hBe:w.heap.size=B at *
  have HBe:=Lib.hid hBe
  have HB:Hid (Below B w W):=Lib.hid (by rw [←hBe];exact hB)
  clear hBe hB hsz
  have c0:=hx.c0
  have c1:=hx.c1
  have c2:=hy.c0
  have c3:=hy.c1
  go_wp2_with fail
  refine (C1.out _).mono ?_
  rintro r w1 ⟨rfl,hE⟩
  have HB:=Lib.hid (HB.out.trans (Below.mono hE (Nat.le_of_lt hx.lt)))
  have hx:=hx.below hE
  have hy:=hy.below hE
  have hbx:=hbx.below hE
  clear c0 c1 c2 c3 hE
  have c0:=hx.c0
  have c1:=hx.c1
  have c2:=hy.c0
  have c3:=hy.c1
  cases p with
  | false =>
    go_wp2_with fail
    refine (whole_any _).mono ?_
    rintro r w9 ⟨rfl,hE⟩
    have hbx:=hbx.below hE
    have HB:=Lib.hid (HB.out.trans (Below.mono hE (Nat.le_of_lt hx.lt)))
    clear hE
    have q0:=hbx.c0
    have q1:=hbx.c1
    have f0:=hbx.f 0
    have f1:=hbx.f 1
    have z:=hbx.stored 18442240474082181120 9218868437227405312
    have z0:=z.c0
    have z1:=z.c1
    have HZ:=Lib.hid (HB.out.trans ((only_iset2 w9 (B+1+1) (.int .u64 18442240474082181120) (.int .u64 9218868437227405312)).below (by omega)))
    clear z
    go_wp2
    refine bodyPost_ret (v:=.agg #[.int .u64 18442240474082181120,.int .u64 9218868437227405312]) (by simp [results,Tryz.results15,go_sem,z0,z1]) rfl ⟨rfl,?_⟩
    show Below _ _ _
    rw [HBe.out]
    exact HZ.out
  | true =>
    go_wp2_with fail
    refine (C2.out _).mono ?_
    rintro r w2 ⟨rfl,hE⟩
    have HB:=Lib.hid (HB.out.trans (Below.mono hE (Nat.le_of_lt hx.lt)))
    have hx:=hx.below hE
    have hy:=hy.below hE
    have hbx:=hbx.below hE
    clear c0 c1 c2 c3 hE
    have c0:=hx.c0
    have c1:=hx.c1
    have c2:=hy.c0
    have c3:=hy.c1
    cases q with
    | false =>
      go_wp2_with fail
      refine (whole_any _).mono ?_
      rintro r w9 ⟨rfl,hE⟩
      have hbx:=hbx.below hE
      have HB:=Lib.hid (HB.out.trans (Below.mono hE (Nat.le_of_lt hx.lt)))
      clear hE
      have q0:=hbx.c0
      have q1:=hbx.c1
      have f0:=hbx.f 0
      have f1:=hbx.f 1
      have z:=hbx.stored 18442240474082181120 9218868437227405312
      have z0:=z.c0
      have z1:=z.c1
      have HZ:=Lib.hid (HB.out.trans ((only_iset2 w9 (B+1+1) (.int .u64 18442240474082181120) (.int .u64 9218868437227405312)).below (by omega)))
      clear z
      go_wp2
      refine bodyPost_ret (v:=.agg #[.int .u64 18442240474082181120,.int .u64 9218868437227405312]) (by simp [results,Tryz.results15,go_sem,z0,z1]) rfl ⟨rfl,?_⟩
      show Below _ _ _
      rw [HBe.out]
      exact HZ.out
    | true =>
      exact absurd h (by simp)
set_option maxRecDepth 100000 in
set_option maxHeartbeats 8000000 in
theorem ihull_no (a b c d:Nat) (ha:a<18446744073709551616) (hb:b<18446744073709551616) (hc:c<18446744073709551616) (hd:d<18446744073709551616) (h:validF a b=false∨validF c d=false) (w:World) :
    Calls Tryz.prog 23 #[.agg #[.int .u64 (a:Int),.int .u64 (b:Int)],.agg #[.int .u64 (c:Int),.int .u64 (d:Int)]] w fun e w'=>e=.returned (.agg #[.int .u64 18442240474082181120,.int .u64 9218868437227405312])∧Ext w w':=by
  obtain ⟨p,hp⟩:∃ p,validF a b=p:=⟨_,rfl⟩
  obtain ⟨q,hq⟩:∃ q,validF c d=q:=⟨_,rfl⟩
  rw [hp,hq] at h
  have C1:=Lib.hid (ivalid_at a b ha hb rfl rfl p hp)
  have C2:=Lib.hid (ivalid_at c d hc hd rfl rfl q hq)
  clear hp hq ha hb hc hd
  go_enter Tryz.func23,Tryz.ntmps23
  go_wp2_with fail
  obtain ⟨W,hW,hB,hx,hy,hbx,hsz⟩:=ibox_three w a b c d 0 0
  rw [←hW]
  clear hW
  generalize hBe:w.heap.size=B at *
  have HBe:=Lib.hid hBe
  have HB:Hid (Below B w W):=Lib.hid (by rw [←hBe];exact hB)
  clear hBe hB hsz
  have c0:=hx.c0
  have c1:=hx.c1
  have c2:=hy.c0
  have c3:=hy.c1
  go_wp2_with fail
  refine (C1.out _).mono ?_
  rintro r w1 ⟨rfl,hE⟩
  have HB:=Lib.hid (HB.out.trans (Below.mono hE (Nat.le_of_lt hx.lt)))
  have hx:=hx.below hE
  have hy:=hy.below hE
  have hbx:=hbx.below hE
  clear c0 c1 c2 c3 hE
  have c0:=hx.c0
  have c1:=hx.c1
  have c2:=hy.c0
  have c3:=hy.c1
  cases p with
  | false =>
    go_wp2_with fail
    refine (whole_any _).mono ?_
    rintro r w9 ⟨rfl,hE⟩
    have hbx:=hbx.below hE
    have HB:=Lib.hid (HB.out.trans (Below.mono hE (Nat.le_of_lt hx.lt)))
    clear hE
    have q0:=hbx.c0
    have q1:=hbx.c1
    have f0:=hbx.f 0
    have f1:=hbx.f 1
    have z:=hbx.stored 18442240474082181120 9218868437227405312
    have z0:=z.c0
    have z1:=z.c1
    have HZ:=Lib.hid (HB.out.trans ((only_iset2 w9 (B+1+1) (.int .u64 18442240474082181120) (.int .u64 9218868437227405312)).below (by omega)))
    clear z
    go_wp2
    refine bodyPost_ret (v:=.agg #[.int .u64 18442240474082181120,.int .u64 9218868437227405312]) (by simp [results,Tryz.results23,go_sem,z0,z1]) rfl ⟨rfl,?_⟩
    show Below _ _ _
    rw [HBe.out]
    exact HZ.out
  | true =>
    go_wp2_with fail
    refine (C2.out _).mono ?_
    rintro r w2 ⟨rfl,hE⟩
    have HB:=Lib.hid (HB.out.trans (Below.mono hE (Nat.le_of_lt hx.lt)))
    have hx:=hx.below hE
    have hy:=hy.below hE
    have hbx:=hbx.below hE
    clear c0 c1 c2 c3 hE
    have c0:=hx.c0
    have c1:=hx.c1
    have c2:=hy.c0
    have c3:=hy.c1
    cases q with
    | false =>
      go_wp2_with fail
      refine (whole_any _).mono ?_
      rintro r w9 ⟨rfl,hE⟩
      have hbx:=hbx.below hE
      have HB:=Lib.hid (HB.out.trans (Below.mono hE (Nat.le_of_lt hx.lt)))
      clear hE
      have q0:=hbx.c0
      have q1:=hbx.c1
      have f0:=hbx.f 0
      have f1:=hbx.f 1
      have z:=hbx.stored 18442240474082181120 9218868437227405312
      have z0:=z.c0
      have z1:=z.c1
      have HZ:=Lib.hid (HB.out.trans ((only_iset2 w9 (B+1+1) (.int .u64 18442240474082181120) (.int .u64 9218868437227405312)).below (by omega)))
      clear z
      go_wp2
      refine bodyPost_ret (v:=.agg #[.int .u64 18442240474082181120,.int .u64 9218868437227405312]) (by simp [results,Tryz.results23,go_sem,z0,z1]) rfl ⟨rfl,?_⟩
      show Below _ _ _
      rw [HBe.out]
      exact HZ.out
    | true =>
      exact absurd h (by simp)
def containsF (c d:Nat):Bool:=!lessF 0 c&&!lessF d 0
set_option maxRecDepth 100000 in
set_option maxHeartbeats 2000000 in
theorem contains_any (c d:Nat) (hc:c<18446744073709551616) (hd:d<18446744073709551616) (w:World) :
    Calls Tryz.prog 53 #[.agg #[.int .u64 (c:Int),.int .u64 (d:Int)]] w fun e w'=>e=.returned (.bool (containsF c d))∧Ext w w':=by
  unfold containsF
  obtain ⟨p,hp⟩:∃ p,lessF 0 c=p:=⟨_,rfl⟩
  obtain ⟨q,hq⟩:∃ q,lessF d 0=q:=⟨_,rfl⟩
  have C1:=Lib.hid (isLess_at 0 c (by decide) hc rfl rfl p hp)
  have C2:=Lib.hid (isLess_at d 0 hd (by decide) rfl rfl q hq)
  rw [hp,hq]
  clear hp hq hc hd
  go_enter Tryz.func53,Tryz.ntmps53
  go_wp2_with fail
  obtain ⟨W,hW,hB,hx,hsz⟩:=ibox_new w c d
  rw [←hW]
  clear hW
  have c0:=hx.c0
  have c1:=hx.c1
  have HB:=Lib.hid hB
  generalize w.heap.size=B at hx c0 c1 ⊢
  clear hB hsz
  go_wp2_with fail
  refine (C1.out _).mono ?_
  rintro r w1 ⟨rfl,hE⟩
  have hx:=hx.below hE
  have HB:=Lib.hid (HB.out.trans hE)
  clear c0 c1 hE
  have c0:=hx.c0
  have c1:=hx.c1
  cases p with
  | true =>
    go_wp2
    go_ret
    exact ⟨rfl,HB.out⟩
  | false =>
    go_wp2_with fail
    refine (C2.out _).mono ?_
    rintro r w2 ⟨rfl,hE⟩
    have HB:=Lib.hid (HB.out.trans hE)
    clear c0 c1 hE
    go_wp2
    go_ret
    exact ⟨rfl,HB.out⟩
set_option maxRecDepth 100000 in
set_option maxHeartbeats 8000000 in
theorem idiv_no (a b c d:Nat) (ha:a<18446744073709551616) (hb:b<18446744073709551616) (hc:c<18446744073709551616) (hd:d<18446744073709551616) (h:validF a b=false∨validF c d=false∨(containsF c d=true)) (w:World) :
    Calls Tryz.prog 17 #[.agg #[.int .u64 (a:Int),.int .u64 (b:Int)],.agg #[.int .u64 (c:Int),.int .u64 (d:Int)]] w fun e w'=>e=.returned (.agg #[.int .u64 18442240474082181120,.int .u64 9218868437227405312])∧Ext w w':=by
  obtain ⟨p,hp⟩:∃ p,validF a b=p:=⟨_,rfl⟩
  obtain ⟨q,hq⟩:∃ q,validF c d=q:=⟨_,rfl⟩
  rw [hp,hq] at h
  have C1:=Lib.hid (ivalid_at a b ha hb rfl rfl p hp)
  have C2:=Lib.hid (ivalid_at c d hc hd rfl rfl q hq)
  have C3:=Lib.hid (contains_any c d hc hd)
  clear hp hq ha hb hc hd
  go_enter Tryz.func17,Tryz.ntmps17
  go_wp2_with fail
  obtain ⟨W,hW,hB,hx,hy,hbx,hsz⟩:=ibox_three w a b c d 0 0
  rw [←hW]
  clear hW
  generalize hBe:w.heap.size=B at *
  have HBe:=Lib.hid hBe
  have HB:Hid (Below B w W):=Lib.hid (by rw [←hBe];exact hB)
  clear hBe hB hsz
  have c0:=hx.c0
  have c1:=hx.c1
  have c2:=hy.c0
  have c3:=hy.c1
  go_wp2_with fail
  refine (C1.out _).mono ?_
  rintro r w1 ⟨rfl,hE⟩
  have HB:=Lib.hid (HB.out.trans (Below.mono hE (Nat.le_of_lt hx.lt)))
  have hx:=hx.below hE
  have hy:=hy.below hE
  have hbx:=hbx.below hE
  clear c0 c1 c2 c3 hE
  have c0:=hx.c0
  have c1:=hx.c1
  have c2:=hy.c0
  have c3:=hy.c1
  cases p with
  | false =>
    go_wp2_with fail
    refine (whole_any _).mono ?_
    rintro r w9 ⟨rfl,hE⟩
    have hbx:=hbx.below hE
    have HB:=Lib.hid (HB.out.trans (Below.mono hE (Nat.le_of_lt hx.lt)))
    clear hE
    have q0:=hbx.c0
    have q1:=hbx.c1
    have f0:=hbx.f 0
    have f1:=hbx.f 1
    have z:=hbx.stored 18442240474082181120 9218868437227405312
    have z0:=z.c0
    have z1:=z.c1
    have HZ:=Lib.hid (HB.out.trans ((only_iset2 w9 (B+1+1) (.int .u64 18442240474082181120) (.int .u64 9218868437227405312)).below (by omega)))
    clear z
    go_wp2
    refine bodyPost_ret (v:=.agg #[.int .u64 18442240474082181120,.int .u64 9218868437227405312]) (by simp [results,Tryz.results17,go_sem,z0,z1]) rfl ⟨rfl,?_⟩
    show Below _ _ _
    rw [HBe.out]
    exact HZ.out
  | true =>
    go_wp2_with fail
    refine (C2.out _).mono ?_
    rintro r w2 ⟨rfl,hE⟩
    have HB:=Lib.hid (HB.out.trans (Below.mono hE (Nat.le_of_lt hx.lt)))
    have hx:=hx.below hE
    have hy:=hy.below hE
    have hbx:=hbx.below hE
    clear c0 c1 c2 c3 hE
    have c0:=hx.c0
    have c1:=hx.c1
    have c2:=hy.c0
    have c3:=hy.c1
    cases q with
    | false =>
      go_wp2_with fail
      refine (whole_any _).mono ?_
      rintro r w9 ⟨rfl,hE⟩
      have hbx:=hbx.below hE
      have HB:=Lib.hid (HB.out.trans (Below.mono hE (Nat.le_of_lt hx.lt)))
      clear hE
      have q0:=hbx.c0
      have q1:=hbx.c1
      have f0:=hbx.f 0
      have f1:=hbx.f 1
      have z:=hbx.stored 18442240474082181120 9218868437227405312
      have z0:=z.c0
      have z1:=z.c1
      have HZ:=Lib.hid (HB.out.trans ((only_iset2 w9 (B+1+1) (.int .u64 18442240474082181120) (.int .u64 9218868437227405312)).below (by omega)))
      clear z
      go_wp2
      refine bodyPost_ret (v:=.agg #[.int .u64 18442240474082181120,.int .u64 9218868437227405312]) (by simp [results,Tryz.results17,go_sem,z0,z1]) rfl ⟨rfl,?_⟩
      show Below _ _ _
      rw [HBe.out]
      exact HZ.out
    | true =>
      obtain h3:containsF c d=true:=by simpa using h
      rw [h3] at C3
      clear h h3
      go_wp2_with fail
      refine (C3.out _).mono ?_
      rintro r w3 ⟨rfl,hE⟩
      have HB:=Lib.hid (HB.out.trans (Below.mono hE (Nat.le_of_lt hx.lt)))
      have hx:=hx.below hE
      have hy:=hy.below hE
      have hbx:=hbx.below hE
      clear c0 c1 c2 c3 hE
      have c0:=hx.c0
      have c1:=hx.c1
      have c2:=hy.c0
      have c3:=hy.c1
      go_wp2_with fail
      refine (whole_any _).mono ?_
      rintro r w9 ⟨rfl,hE⟩
      have hbx:=hbx.below hE
      have HB:=Lib.hid (HB.out.trans (Below.mono hE (Nat.le_of_lt hx.lt)))
      clear hE
      have q0:=hbx.c0
      have q1:=hbx.c1
      have f0:=hbx.f 0
      have f1:=hbx.f 1
      have z:=hbx.stored 18442240474082181120 9218868437227405312
      have z0:=z.c0
      have z1:=z.c1
      have HZ:=Lib.hid (HB.out.trans ((only_iset2 w9 (B+1+1) (.int .u64 18442240474082181120) (.int .u64 9218868437227405312)).below (by omega)))
      clear z
      go_wp2
      refine bodyPost_ret (v:=.agg #[.int .u64 18442240474082181120,.int .u64 9218868437227405312]) (by simp [results,Tryz.results17,go_sem,z0,z1]) rfl ⟨rfl,?_⟩
      show Below _ _ _
      rw [HBe.out]
      exact HZ.out
set_option maxRecDepth 100000 in
set_option maxHeartbeats 8000000 in
theorem isqrt_no (a b:Nat) (ha:a<18446744073709551616) (hb:b<18446744073709551616) (h:validF a b=false) (w:World) :
    Calls Tryz.prog 21 #[.agg #[.int .u64 (a:Int),.int .u64 (b:Int)]] w fun e w'=>e=.returned (.agg #[.int .u64 18442240474082181120,.int .u64 9218868437227405312])∧Ext w w':=by
  have C1:=Lib.hid (ivalid_at a b ha hb rfl rfl false h)
  clear h ha hb
  go_enter Tryz.func21,Tryz.ntmps21
  go_wp2_with fail
  obtain ⟨W,hW,hB,hx,hbx,hsz⟩:=ibox_two w a b 0 0
  rw [←hW]
  clear hW
  generalize hBe:w.heap.size=B at *
  have HBe:=Lib.hid hBe
  have HB:Hid (Below B w W):=Lib.hid (by rw [←hBe];exact hB)
  clear hBe hB hsz
  have c0:=hx.c0
  have c1:=hx.c1
  go_wp2_with fail
  refine (C1.out _).mono ?_
  rintro r w1 ⟨rfl,hE⟩
  have HB:=Lib.hid (HB.out.trans (Below.mono hE (Nat.le_of_lt hx.lt)))
  have hx:=hx.below hE
  have hbx:=hbx.below hE
  clear c0 c1 hE
  have c0:=hx.c0
  have c1:=hx.c1
  go_wp2_with fail
  refine (whole_any _).mono ?_
  rintro r w9 ⟨rfl,hE⟩
  have hbx:=hbx.below hE
  have HB:=Lib.hid (HB.out.trans (Below.mono hE (Nat.le_of_lt hx.lt)))
  clear hE
  have q0:=hbx.c0
  have q1:=hbx.c1
  have f0:=hbx.f 0
  have f1:=hbx.f 1
  have z:=hbx.stored 18442240474082181120 9218868437227405312
  have z0:=z.c0
  have z1:=z.c1
  have HZ:=Lib.hid (HB.out.trans ((only_iset2 w9 (B+1) (.int .u64 18442240474082181120) (.int .u64 9218868437227405312)).below (by omega)))
  clear z
  go_wp2
  refine bodyPost_ret (v:=.agg #[.int .u64 18442240474082181120,.int .u64 9218868437227405312]) (by simp [results,Tryz.results21,go_sem,z0,z1]) rfl ⟨rfl,?_⟩
  show Below _ _ _
  rw [HBe.out]
  exact HZ.out
end Go.Proofs.YtkomhemjodbkpaaGreatDoor
