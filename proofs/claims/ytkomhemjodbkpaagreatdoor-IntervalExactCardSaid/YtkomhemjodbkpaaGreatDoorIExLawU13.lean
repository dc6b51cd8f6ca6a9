import Derived.Test.YtkomhemjodbkpaaGreatDoorIExLawU10
import Derived.Deep.CutBlock
import Derived.Test.YtkomhemjodbkpaaGreatDoorIExLawU12
import Derived.LoopTactic
namespace Go.Proofs.YtkomhemjodbkpaaGreatDoor
open Go.RowKit
def Dg (w:World) (v:Value) (d:Dy):Prop :=
  ∃ bb nb ao n ca x f,v=.agg #[.bool bb,.bool nb,.slice ao n ca,.int .i64 f]∧Bg w nb ao n ca x∧-9223372036854775808≤f∧f≤9223372036854775807∧d=if bb then none else dmk x f
theorem Dg.ext {w w':World} {v:Value} {d:Dy} (h:Dg w v d) (he:Ext w w'):Dg w' v d:=by
  obtain ⟨bb,nb,ao,n,ca,x,f,h1,h2,h3⟩:=h
  exact ⟨bb,nb,ao,n,ca,x,f,h1,h2.below he,h3⟩
theorem nd_blen {d:Dy} (h:Nd d):blen (dm d).natAbs≤131072∧-65536≤dx d∧dx d≤65536:=by
  cases d with
  | none=>simp [dm,dx,blen]
  | some p =>
    obtain ⟨m,e⟩:=p
    show blen m.natAbs≤131072∧-65536≤e∧e≤65536
    rcases h with ⟨rfl,rfl⟩ | ⟨h1,h2,h3⟩
    · simp [blen]
    · omega
theorem blen_lt (a:Nat):a<2^blen a:=by
  by_cases h:a=0
  · subst h;simp [blen]
  · obtain ⟨l,h1,_,h3⟩:=blen_spec h
    rw [h1];exact h3
theorem limbs_of_blen {a k:Nat} (h:blen a≤32*k):(limbs a).length≤k:=by
  rw [limbs_len_le]
  exact Nat.lt_of_lt_of_le (blen_lt a) (pow_limbs h)
open Go.RowKit
theorem sc_some (m e:Int):sc (some (m,e))=m*2^(e+65536).toNat:=rfl
theorem boxes_al (w:World) (bb nb:Bool) (ao:Option Addr) (n cap:Nat) (e:Int) (cb mb:Bool) (bo:Option Addr) (m cap':Nat) (f:Int) :
    ∃ W,W=(((w.alloc (.cells #[.bool bb,.bool nb,.slice ao n cap,.int .i64 e] 38)).alloc (.cells #[.bool cb,.bool mb,.slice bo m cap',.int .i64 f] 38)).alloc (.cells #[.bool false,.slice none 0 0] 36)).alloc (.cells #[.bool false,.slice none 0 0] 36)∧Below w.heap.size w W ∧
      DBox W w.heap.size bb nb ao n cap e∧DBox W (w.heap.size+1) cb mb bo m cap' f∧Box W (w.heap.size+1+1) false none 0 0∧Box W (w.heap.size+1+1+1) false none 0 0∧w.heap.size+4≤W.heap.size:=by
  refine ⟨_,rfl,((((Below.refl _ w).alloc (Nat.le_refl _) _).alloc (by simp) _).alloc (by simp <;> omega) _).alloc (by simp <;> omega) _,?_,?_,?_,?_,by simp⟩
  · exact (DBox.new w bb nb ao n cap e).below ((((Below.refl _ _).alloc (Nat.le_refl _) _).alloc (by simp) _).alloc (by simp <;> omega) _)
  · have:=(DBox.new (w.alloc (.cells #[.bool bb,.bool nb,.slice ao n cap,.int .i64 e] 38)) cb mb bo m cap' f).below (((Below.refl _ _).alloc (Nat.le_refl _) (.cells #[.bool false,.slice none 0 0] 36)).alloc (by simp) (.cells #[.bool false,.slice none 0 0] 36))
    simpa using this
  · have:=(Box.new ((w.alloc (.cells #[.bool bb,.bool nb,.slice ao n cap,.int .i64 e] 38)).alloc (.cells #[.bool cb,.bool mb,.slice bo m cap',.int .i64 f] 38)) false none 0 0).below ((Below.refl _ _).alloc (Nat.le_refl _) (.cells #[.bool false,.slice none 0 0] 36))
    simpa using this
  · have:=Box.new (((w.alloc (.cells #[.bool bb,.bool nb,.slice ao n cap,.int .i64 e] 38)).alloc (.cells #[.bool cb,.bool mb,.slice bo m cap',.int .i64 f] 38)).alloc (.cells #[.bool false,.slice none 0 0] 36)) false none 0 0
    simpa using this
def Aligned (d d':Dy) (X Y E:Int):Prop:=-65536≤E∧E≤65536∧sc d=X*2^(E+65536).toNat∧sc d'=Y*2^(E+65536).toNat∧blen X.natAbs≤131072∧blen Y.natAbs≤131072
theorem blen_shift {m e f:Int} (h:Nd (some (m,e))) (hf : -65536≤f) (hfe:f≤e):blen (m*2^(e - f).toNat).natAbs≤131072:=by
  by_cases h0:m=0
  · subst h0;simp [blen]
  · rcases h with ⟨h1,_⟩ | ⟨_,h2,h3⟩
    · exact absurd h1 h0
    · rw [natAbs_shift,blen_mul (by omega)];omega
theorem sc_shift {m e f:Int} (hf : -65536≤f) (hfe:f≤e):sc (some (m,e))=m*2^(e - f).toNat*2^(f+65536).toNat:=by
  rw [sc_some,Int.mul_assoc,←Int.pow_add]
  congr 2;omega
theorem Aligned.mk1 {m e m' e':Int} (h:Nd (some (m,e))) (h':Nd (some (m',e'))) (hle:e'≤e):Aligned (some (m,e)) (some (m',e')) (m*2^(e - e').toNat) m' e':=by
  have a:=nd_blen h
  have b:=nd_blen h'
  simp only [dm,dx,Option.getD_some] at a b
  exact ⟨by omega,by omega,sc_shift (by omega) hle,rfl,blen_shift h (by omega) hle,by omega⟩
theorem Aligned.mk2 {m e m' e':Int} (h:Nd (some (m,e))) (h':Nd (some (m',e'))) (hle:e≤e'):Aligned (some (m,e)) (some (m',e')) m (m'*2^(e' - e).toNat) e:=by
  have a:=nd_blen h
  have b:=nd_blen h'
  simp only [dm,dx,Option.getD_some] at a b
  exact ⟨by omega,by omega,rfl,sc_shift (by omega) hle,by omega,blen_shift h' (by omega) hle⟩
theorem Aligned.zero1 {m e m' e':Int} (h':Nd (some (m',e'))) (h0:m=0):Aligned (some (m,e)) (some (m',e')) m m' e':=by
  have b:=nd_blen h'
  simp only [dm,dx,Option.getD_some] at b
  exact ⟨by omega,by omega,by rw [sc_some,h0];simp,rfl,by rw [h0];simp [blen],by omega⟩
theorem Aligned.zero2 {m e m' e':Int} (h:Nd (some (m,e))) (h0:m'=0):Aligned (some (m,e)) (some (m',e')) m m' e:=by
  have b:=nd_blen h
  simp only [dm,dx,Option.getD_some] at b
  exact ⟨by omega,by omega,rfl,by rw [sc_some,h0];simp,by omega,by rw [h0];simp [blen]⟩
theorem blen_add (x y:Int):blen (x+y).natAbs≤max (blen x.natAbs) (blen y.natAbs)+1:=by
  apply blen_le_of_lt
  have a:=Nat.lt_of_lt_of_le (blen_lt x.natAbs) (Nat.pow_le_pow_right (show 0<2 by omega) (Nat.le_max_left (blen x.natAbs) (blen y.natAbs)))
  have b:=Nat.lt_of_lt_of_le (blen_lt y.natAbs) (Nat.pow_le_pow_right (show 0<2 by omega) (Nat.le_max_right (blen x.natAbs) (blen y.natAbs)))
  have h:=Int.natAbs_add_le x y
  rw [Nat.pow_succ]
  omega
theorem blen_mul_le (x y:Int):blen (x*y).natAbs≤blen x.natAbs+blen y.natAbs:=by
  apply blen_le_of_lt
  rw [Int.natAbs_mul,Nat.pow_add]
  have a:=blen_lt x.natAbs
  have b:=blen_lt y.natAbs
  exact Nat.lt_of_le_of_lt (Nat.mul_le_mul_right _ (Nat.le_of_lt a)) (Nat.mul_lt_mul_of_pos_left b (Nat.pos_of_ne_zero (by simp)))
theorem bn_bg_of {w:World} {nb:Bool} {ao:Option Addr} {n ca:Nat} {x:Int} (h:Bn w nb ao n ca x) (hb:blen x.natAbs≤1000000):Bg w nb ao n ca x:=by
  have hl:n≤40000:=by rw [←h.sl.len];exact limbs_of_blen (by omega)
  exact h.bg (by omega)
theorem Bg.only_bx {w w':World} {g:Nat} {nb mb:Bool} {ao ro:Option Addr} {n cap k cr:Nat} {x:Int} (h:Bg w mb ro k cr x) (hx:Box w g nb ao n cap) (ho:Only g w w'):Bg w' mb ro k cr x:=by
  obtain ⟨⟨zs,h1,h2⟩,h3⟩:=h
  exact ⟨⟨zs,h1.only_box hx ho,h2⟩,h3⟩
theorem two_bigs {w w0:World} {g h B:Nat} {nb mb xn yn:Bool} {ao bo xo yo:Option Addr} {n m ca cb xk xc yk yc:Nat} {X Y:Int} (hg:Box w g nb ao n ca) (hh:Box w h mb bo m cb) (hne:g≠h) (hBg:B≤g) (hBh:B≤h)
    (hx:Bg w xn xo xk xc X) (hy:Bg w yn yo yk yc Y) (hb:Below B w0 w) :
    Bg ((((w.setCell ⟨g,0,none⟩ (.bool xn)).setCell ⟨g,1,none⟩ (.slice xo xk xc)).setCell ⟨h,0,none⟩ (.bool yn)).setCell ⟨h,1,none⟩ (.slice yo yk yc)).drew xn xo xk xc X ∧
    Bg ((((w.setCell ⟨g,0,none⟩ (.bool xn)).setCell ⟨g,1,none⟩ (.slice xo xk xc)).setCell ⟨h,0,none⟩ (.bool yn)).setCell ⟨h,1,none⟩ (.slice yo yk yc)).drew yn yo yk yc Y ∧
    Below B w0 ((((w.setCell ⟨g,0,none⟩ (.bool xn)).setCell ⟨g,1,none⟩ (.slice xo xk xc)).setCell ⟨h,0,none⟩ (.bool yn)).setCell ⟨h,1,none⟩ (.slice yo yk yc)).drew ∧
    Box ((((w.setCell ⟨g,0,none⟩ (.bool xn)).setCell ⟨g,1,none⟩ (.slice xo xk xc)).setCell ⟨h,0,none⟩ (.bool yn)).setCell ⟨h,1,none⟩ (.slice yo yk yc)).drew g xn xo xk xc ∧
    Box ((((w.setCell ⟨g,0,none⟩ (.bool xn)).setCell ⟨g,1,none⟩ (.slice xo xk xc)).setCell ⟨h,0,none⟩ (.bool yn)).setCell ⟨h,1,none⟩ (.slice yo yk yc)).drew h yn yo yk yc:=by
  have o1:=only_set2 w g (.bool xn) (.slice xo xk xc)
  have g1:=hg.stored xn xo xk xc
  have h1:=hh.only o1 hne.symm
  have x1:=hx.only_bx hg o1
  have y1:=hy.only_bx hg o1
  generalize (w.setCell ⟨g,0,none⟩ (.bool xn)).setCell ⟨g,1,none⟩ (.slice xo xk xc)=w1 at *
  have o2:=only_set2 w1 h (.bool yn) (.slice yo yk yc)
  exact ⟨(x1.only_bx h1 o2).drew,(y1.only_bx h1 o2).drew,((hb.trans (o1.below hBg)).trans (o2.below hBh)).drew,(g1.only o2 hne).drew,(h1.stored yn yo yk yc).drew⟩
open Go.RowKit
theorem boxes_two_d (w:World) (bb nb:Bool) (ao:Option Addr) (n cap:Nat) (e:Int) (cb mb:Bool) (bo:Option Addr) (m cap':Nat) (f:Int) :
    ∃ W,W=(w.alloc (.cells #[.bool bb,.bool nb,.slice ao n cap,.int .i64 e] 38)).alloc (.cells #[.bool cb,.bool mb,.slice bo m cap',.int .i64 f] 38)∧Below w.heap.size w W ∧
      DBox W w.heap.size bb nb ao n cap e∧DBox W (w.heap.size+1) cb mb bo m cap' f∧w.heap.size+2≤W.heap.size:=by
  refine ⟨_,rfl,((Below.refl _ w).alloc (Nat.le_refl _) _).alloc (by simp) _,?_,?_,by simp⟩
  · exact (DBox.new w bb nb ao n cap e).below ((Below.refl _ _).alloc (Nat.le_refl _) _)
  · have:=DBox.new (w.alloc (.cells #[.bool bb,.bool nb,.slice ao n cap,.int .i64 e] 38)) cb mb bo m cap' f
    simpa using this
theorem boxes_bb (w:World) (nb:Bool) (ao:Option Addr) (n ca:Nat) (mb:Bool) (bo:Option Addr) (m cb:Nat) :
    ∃ W,W=(w.alloc (.cells #[.bool nb,.slice ao n ca] 36)).alloc (.cells #[.bool mb,.slice bo m cb] 36)∧Below w.heap.size w W∧Box W w.heap.size nb ao n ca∧Box W (w.heap.size+1) mb bo m cb:=by
  refine ⟨_,rfl,((Below.refl _ w).alloc (Nat.le_refl _) _).alloc (by simp) _,?_,?_⟩
  · exact (Box.new w nb ao n ca).below ((Below.refl _ _).alloc (Nat.le_refl _) _)
  · have:=Box.new (w.alloc (.cells #[.bool nb,.slice ao n ca] 36)) mb bo m cb
    simpa using this
theorem dn_some {w:World} {bb nb:Bool} {ao:Option Addr} {n ca:Nat} {f:Int} {m e:Int} (h:Dn w (.agg #[.bool bb,.bool nb,.slice ao n ca,.int .i64 f]) (some (m,e))):bb=false∧f=e∧Bn w nb ao n ca m:=by
  obtain ⟨_,nb',ao',n',ca',h1,h2⟩:=h
  simp only [Value.agg.injEq,Array.mk.injEq,List.cons.injEq,Value.bool.injEq,Value.slice.injEq,Value.int.injEq,and_true,true_and] at h1
  obtain ⟨rfl,rfl,⟨rfl,rfl,rfl⟩,rfl⟩:=h1
  exact ⟨rfl,rfl,h2⟩
theorem dn_none {w:World} {bb nb:Bool} {ao:Option Addr} {n ca:Nat} {f:Int} (h:Dn w (.agg #[.bool bb,.bool nb,.slice ao n ca,.int .i64 f]) none):bb=true:=by
  obtain ⟨_,nb',ao',n',ca',h1,h2⟩:=h
  simp only [Value.agg.injEq,Array.mk.injEq,List.cons.injEq,Value.bool.injEq,Value.slice.injEq,Value.int.injEq,and_true,true_and] at h1
  exact h1.1
theorem Dn.parts {w:World} {v:Value} {d:Dy} (h:Dn w v d):∃ bb nb ao n ca f,v=.agg #[.bool bb,.bool nb,.slice ao n ca,.int .i64 f]:=by
  obtain ⟨_,nb',ao',n',ca',h1,h2⟩:=h
  exact ⟨_,_,_,_,_,_,h1⟩
theorem Dn.drew {w:World} {v:Value} {d:Dy} (h:Dn w v d):Dn w.drew v d:=h.ext (Below.refl _ _).drew
theorem Dg.drew {w:World} {v:Value} {d:Dy} (h:Dg w v d):Dg w.drew v d:=h.ext (Below.refl _ _).drew
theorem Table.drew {w:World} (h:Table w):Table w.drew:=h.below (Below.refl _ _).drew
theorem DBox.drew {w:World} {g:Nat} {bb nb:Bool} {ao:Option Addr} {n ca:Nat} {e:Int} (h:DBox w g bb nb ao n ca e):DBox w.drew g bb nb ao n ca e:=h
theorem two_dyads {w w0:World} {g h B:Nat} {bb nb cc mb xb xn yb yn:Bool} {ao bo xo yo:Option Addr} {n m ca cb xk xc yk yc:Nat} {e f xe ye:Int} {d d':Dy} (hg:DBox w g bb nb ao n ca e) (hh:DBox w h cc mb bo m cb f) (hne:g≠h) (hBg:B≤g) (hBh:B≤h)
    (hx:Dn w (.agg #[.bool xb,.bool xn,.slice xo xk xc,.int .i64 xe]) d) (hy:Dn w (.agg #[.bool yb,.bool yn,.slice yo yk yc,.int .i64 ye]) d') (hb:Below B w0 w) :
    ∃ W,W=((((((((w.setCell ⟨g,0,none⟩ (.bool xb)).setCell ⟨g,1,none⟩ (.bool xn)).setCell ⟨g,2,none⟩ (.slice xo xk xc)).setCell ⟨g,3,none⟩ (.int .i64 xe)).setCell ⟨h,0,none⟩ (.bool yb)).setCell ⟨h,1,none⟩ (.bool yn)).setCell ⟨h,2,none⟩ (.slice yo yk yc)).setCell ⟨h,3,none⟩ (.int .i64 ye)) ∧
      Dn W (.agg #[.bool xb,.bool xn,.slice xo xk xc,.int .i64 xe]) d∧Dn W (.agg #[.bool yb,.bool yn,.slice yo yk yc,.int .i64 ye]) d'∧Below B w0 W ∧
      DBox W g xb xn xo xk xc xe∧DBox W h yb yn yo yk yc ye∧(∀ k,k≠g→k≠h→W.heap[k]?=w.heap[k]?)∧W.heap.size=w.heap.size:=by
  refine ⟨_,rfl,?_⟩
  have o1:=only_set4 w g (.bool xb) (.bool xn) (.slice xo xk xc) (.int .i64 xe)
  have g1:=hg.stored xb xn xo xk xc xe
  have h1:=hh.only o1 hne.symm
  have x1:=hx.only_dbox hg o1
  have y1:=hy.only_dbox hg o1
  generalize (((w.setCell ⟨g,0,none⟩ (.bool xb)).setCell ⟨g,1,none⟩ (.bool xn)).setCell ⟨g,2,none⟩ (.slice xo xk xc)).setCell ⟨g,3,none⟩ (.int .i64 xe)=w1 at *
  have o2:=only_set4 w1 h (.bool yb) (.bool yn) (.slice yo yk yc) (.int .i64 ye)
  exact ⟨x1.only_dbox h1 o2,y1.only_dbox h1 o2,(hb.trans (o1.below hBg)).trans (o2.below hBh),g1.only o2 hne,h1.stored yb yn yo yk yc ye,fun k hk1 hk2=>by rw [o2.block k hk2,o1.block k hk1],by rw [o2.size,o1.size]⟩
theorem Dg.only_dbox {w w':World} {g:Nat} {bb nb:Bool} {ao:Option Addr} {n cap:Nat} {f:Int} {v:Value} {d:Dy} (h:Dg w v d) (hx:DBox w g bb nb ao n cap f) (ho:Only g w w'):Dg w' v d:=by
  obtain ⟨cc,mb,bo,m,cb,x,f',h1,h2,h3⟩:=h
  exact ⟨cc,mb,bo,m,cb,x,f',h1,h2.only_dbox hx ho,h3⟩
theorem dadd_al {p q:Int × Int} {X Y E:Int} (h:Aligned (some p) (some q) X Y E):dmk (X+Y) E=dadd (some p) (some q):=by
  obtain ⟨h0,h1,h2,h3,_⟩:=h
  show _=dmk (sc (some p)+sc (some q)) (-65536)
  rw [h2,h3,←Int.add_mul,dmk_shift]
  congr 1;omega
def dsub (d d':Dy):Dy:=dadd d (dneg d')
open Go.RowKit
theorem Dn.get {w:World} {bb nb:Bool} {ao:Option Addr} {n ca:Nat} {f:Int} {d:Dy} (h:Dn w (.agg #[.bool bb,.bool nb,.slice ao n ca,.int .i64 f]) d):bb=d.isNone∧f=dx d∧Bn w nb ao n ca (dm d):=by
  obtain ⟨_,nb',ao',n',ca',h1,h2⟩:=h
  simp only [Value.agg.injEq,Array.mk.injEq,List.cons.injEq,Value.bool.injEq,Value.slice.injEq,Value.int.injEq,and_true,true_and] at h1
  obtain ⟨rfl,rfl,⟨rfl,rfl,rfl⟩,rfl⟩:=h1
  exact ⟨rfl,rfl,h2⟩
theorem Dn.put {w:World} {bb nb:Bool} {ao:Option Addr} {n ca:Nat} {f:Int} {d:Dy} (h0:Nd d) (h1:bb=d.isNone) (h2:f=dx d) (h3:Bn w nb ao n ca (dm d)):Dn w (.agg #[.bool bb,.bool nb,.slice ao n ca,.int .i64 f]) d :=
  ⟨h0,nb,ao,n,ca,by rw [h1,h2],h3⟩
open Go.RowKit
theorem Box.ext' {w w':World} {g:Nat} {nb:Bool} {ao:Option Addr} {n ca:Nat} (h:Box w g nb ao n ca) (he:Ext w w'):Box w' g nb ao n ca:=h.below he
theorem Bg.ext {w w':World} {nb:Bool} {ao:Option Addr} {n ca:Nat} {x:Int} (h:Bg w nb ao n ca x) (he:Ext w w'):Bg w' nb ao n ca x:=h.below he
open Go.RowKit
theorem sgn3_common {x y:Int} {k:Nat}:sgn3 (x*2^k) (y*2^k)=sgn3 x y:=by
  have hp:=two_pos k
  unfold sgn3
  rcases Int.lt_trichotomy x y with h | h | h
  · rw [if_pos (Int.mul_lt_mul_of_pos_right h hp),if_pos h]
  · subst h;simp
  · have:=Int.mul_lt_mul_of_pos_right h hp
    rw [if_neg (by omega),if_pos this,if_neg (by omega),if_pos h]
def CmpOut (d d':Dy) (e:Ending):Prop :=
  (d=none∨d'=none)∧e=.returned (.tuple #[.int .i64 0,.bool false])∨d≠none∧d'≠none∧e=.returned (.tuple #[.int .i64 (sgn3 (sc d) (sc d')),.bool true])
open Go.RowKit
theorem Dn.num {w:World} {bb nb:Bool} {ao:Option Addr} {n ca:Nat} {f:Int} {d:Dy} (h:Dn w (.agg #[.bool bb,.bool nb,.slice ao n ca,.int .i64 f]) d):bb=d.isNone∧f=dx d∧Bn w nb ao n ca (dm d):=h.get
open Go.RowKit
theorem dn_lit {w:World} {nb:Bool} {ao:Option Addr} {n ca:Nat} {m f:Int} (h:Bn w nb ao n ca m) (h0:Nd (some (m,f))):Dn w (.agg #[.bool false,.bool nb,.slice ao n ca,.int .i64 f]) (some (m,f)):=⟨h0,nb,ao,n,ca,rfl,h⟩
open Go.RowKit
set_option maxRecDepth 100000 in
set_option maxHeartbeats 1000000 in
theorem refBad_any (w:World) :
    Calls Tryz.prog 132 #[] w fun e w'=>e=.returned (.agg #[.bool true,.bool false,.slice none 0 0,.int .i64 0])∧Ext w w':=by
  go_enter Tryz.func132,Tryz.ntmps132
  go_wp2
  exact bodyPost_ret (v:=.agg #[.bool true,.bool false,.slice none 0 0,.int .i64 0]) (by simp [results,Tryz.results132,go_sem]) rfl ⟨rfl,((Below.refl _ _).alloc (Nat.le_refl _) _)⟩
theorem refShift_dn0 (nb:Bool) (ao:Option Addr) (n cap:Nat) (x:Int) (e:Nat) (w:World) (h:Bg w nb ao n cap x) (h0:0≤x) (he:e≤1048576) :
    Calls Tryz.prog 171 #[.agg #[.bool nb,.slice ao n cap],.int .i64 (-(e:Int))] w fun r w'=>∃ nr ro k cr,r=.returned (.agg #[.bool nr,.slice ro k cr])∧Bn w' nr ro k cr (x / 2^e)∧Ext w w':=by
  rcases Nat.eq_zero_or_pos e with rfl | he0
  · have:=refShift_up nb ao n cap x 0 w h (by omega)
    rw [show (-((0:Nat):Int))=((0:Nat):Int) from rfl]
    exact this.mono fun r w' ⟨nr,ro,k,cr,hr,hb,_,hw⟩=>⟨nr,ro,k,cr,hr,by simpa using hb,hw⟩
  · exact (refShift_down nb ao n cap x e w h h0 he0 he).mono fun r w' ⟨nr,ro,k,cr,hr,hb,_,hw⟩=>⟨nr,ro,k,cr,hr,hb,hw⟩
set_option maxRecDepth 100000 in
set_option maxHeartbeats 2000000 in
theorem refDown_any (nb:Bool) (ao:Option Addr) (n cap:Nat) (x:Int) (e:Nat) (w:World) (h:Bg w nb ao n cap x) (h0:0≤x) (he:e≤1048576) :
    Calls Tryz.prog 174 #[.agg #[.bool nb,.slice ao n cap],.int .i64 (e:Int)] w fun r w'=>∃ nr ro k cr,r=.returned (.agg #[.bool nr,.slice ro k cr])∧Bn w' nr ro k cr (x / 2^e)∧Ext w w':=by
  obtain ⟨ei,hei⟩:∃ ei:Int,(e:Int)=ei:=⟨_,rfl⟩
  have hei0:0≤ei:=by omega
  have hei1:ei≤1048576:=by omega
  rw [hei]
  have HEI:=Lib.hid hei;clear hei
  go_enter Tryz.func174,Tryz.ntmps174
  go_wp2_with fail
  obtain ⟨W,hW,hB,hbx,hrx,hz⟩:=boxes1 w nb ao n cap
  rw [←hW]
  clear hW
  have h1:=h.below hB
  generalize hBe:w.heap.size=B at *
  have HBe:=Lib.hid hBe;clear hBe
  go_loopw [1] (fun i wr=>i=.int .i64 ei∧wr=W) (fun _ _=>0)
  case atStart=>exact ⟨rfl,rfl⟩
  case round =>
    obtain ⟨rfl,rfl⟩:=hrel
    have k0:=hbx.c0
    have k1:=hbx.c1
    have hcall:=refShift_dn0 nb ao n cap x e wr h1 h0 (by omega)
    rw [HEI.out] at hcall
    have HC:=Lib.hid hcall;clear hcall
    go_wp2_with fail
    refine HC.out.mono ?_
    rintro r w1 ⟨nr,ro,k,rc,rfl,hs1,hw1⟩
    have b1:=hrx.below hw1
    obtain ⟨h1,z1⟩:=bnext hB (by omega) hw1
    clear k0 k1 HC
    have q0:=b1.c0
    have q1:=b1.c1
    have q2:=b1.f 0
    have q3:=b1.f 1
    have hst:=b1.stored nr ro k rc
    have u0:=hst.c0
    have u1:=hst.c1
    have hres:Bn ((w1.setCell ⟨B+1,0,none⟩ (.bool nr)).setCell ⟨B+1,1,none⟩ (.slice ro k rc)) nr ro k rc (x / 2^e):=⟨hs1.neg,hs1.sl.only_box b1 (only_set2 _ _ _ _)⟩
    have hbl:=h1.trans ((only_set2 w1 (B+1) (.bool nr) (.slice ro k rc)).below (Nat.le_succ B))
    have HRES:=Lib.hid hres;clear hres
    go_wp2
    refine bodyPost_ret (v:=.agg #[.bool nr,.slice ro k rc]) (by simp [results,Tryz.results174,go_sem,u0,u1]) rfl ⟨_,ro,k,rc,rfl,HRES.out,?_⟩
    show Below _ _ _
    rw [HBe.out];exact hbl
theorem odd_bn {w:World} {nb mr:Bool} {mo:Option Addr} {j mc:Nat} {x:Int} (h:Bn w mr mo j mc ((x.natAbs:Int) / 2^tzf x.natAbs)) (h0:x≠0) (hn:nb=decide (x<0)):Bn w nb mo j mc (x / 2^tzf x.natAbs):=by
  obtain ⟨m,h1,h2,h3⟩:=odd_part h0
  rw [h3]
  have hp:=two_pos (tzf x.natAbs)
  have e:(x.natAbs:Int) / 2^tzf x.natAbs=m.natAbs:=by
    have e2:(x.natAbs:Int)=(m.natAbs:Int)*2^tzf x.natAbs:=by
      conv=>lhs;rw [h1]
      rw [natAbs_shift];push_cast;rfl
    rw [e2,Int.mul_ediv_cancel _ (Int.ne_of_gt hp)]
  rw [e] at h
  refine ⟨?_,by have:=h.sl;rwa [Int.natAbs_natCast] at this⟩
  rw [hn,decide_eq_decide]
  constructor
  · intro hx
    rcases Int.lt_or_le m 0 with hm | hm
    · exact hm
    · have:=Int.mul_nonneg hm (Int.le_of_lt hp);omega
  · intro hm
    have:=Int.mul_neg_of_neg_of_pos hm hp;omega
theorem dmk_far {x f:Int} (h0:x≠0) (hf:65536<f):dmk x f=none:=by
  unfold dmk
  rw [if_neg h0,if_pos (by omega)]
set_option maxRecDepth 100000 in
set_option maxHeartbeats 4000000 in
theorem refMake_any (nb:Bool) (ao:Option Addr) (n ca:Nat) (x f:Int) (w:World) (h:Bg w nb ao n ca x) (hbl:blen x.natAbs≤1000000) (hf0 : -9223372036854775808≤f) (hf1:f≤9223372036854775807) (hT:Table w) :
    Calls Tryz.prog 134 #[.agg #[.bool nb,.slice ao n ca],.int .i64 f] w fun e w'=>∃ v,e=.returned v∧Dn w' v (dmk x f)∧Ext w w':=by
  have hsm:=h.small
  have hnb:x≠0→nb=decide (x<0):=by
    intro h0
    obtain ⟨⟨zs,hs,hx⟩,_⟩:=h
    have hn:=num_nonneg hs.wf
    unfold sgd at hx
    cases nb <;> simp at hx <;> simp <;> omega
  have HNB:=Lib.hid hnb;clear hnb
  go_enter Tryz.func134,Tryz.ntmps134
  go_upto_region 1 with fail
  obtain ⟨W,hW,hB,hbx,hrx,hz⟩:=boxes_bd w nb ao n ca
  rw [←hW]
  clear hW
  have h:=h.below hB
  have HT:=Lib.hid (hT.below hB)
  generalize hBe:w.heap.size=B at *
  have HBe:=Lib.hid hBe;clear hBe hT
  have k0:=hbx.c0
  have k1:=hbx.c1
  go_wp2_with fail
  refine (refNorm_any nb ao n ca x W h).mono ?_
  rintro e w1 ⟨nr,ro,k,rc,rfl,hr,hk,hw1⟩
  have HT:=Lib.hid (HT.out.below hw1)
  have b1:=hbx.below hw1
  have c1:=hrx.below hw1
  obtain ⟨hB1,hB1'⟩:=bnext hB (by omega) hw1
  have hw1s:=hw1.size
  clear k0 k1 hbx hrx h
  go_upto_region 2 with fail
  obtain ⟨V,hV,hv,e1,hz2⟩:=box_new w1 nr ro k rc
  rw [←hV]
  clear hV
  have HT:=Lib.hid (HT.out.below hv)
  have b2:=b1.below hv
  have c2:=c1.below hv
  have hr:=hr.below hv
  obtain ⟨hB2,hB2'⟩:=bnext hB1 (by omega) hv
  have hD:B+2≤w1.heap.size:=by omega
  clear hw1 hv b1 c1 hw1s hz
  generalize w1.heap.size=D at *
  have k0:=e1.c0
  have k1:=e1.c1
  have hz0:=len_zero_iff hr.sl.len
  have HBL:=Lib.hid hbl
  by_cases hk0:k=0
  · have hx0:x=0:=by have:=hz0.1 hk0;omega
    have HX:=Lib.hid hx0;clear hx0 hz0 hbl
    subst hk0
    have q0:=c2.c0
    have q1:=c2.c1
    have q2:=c2.c2
    have q3:=c2.c3
    have f0:=c2.f 0
    have f1:=c2.f 1
    have f2:=c2.f 2
    have f3:=c2.f 3
    have hres:=dn_stored c2 (dn_zero _) w hB2 (Nat.le_succ B)
    have z3:=c2.stored false false none 0 0 0
    have z0:=z3.c0
    have z1:=z3.c1
    have z2:=z3.c2
    have z4:=z3.c3
    have HRES:=Lib.hid hres;clear hres z3
    go_wp2
    refine bodyPost_ret (v:=.agg #[.bool false,.bool false,.slice none 0 0,.int .i64 0]) (by simp [results,Tryz.results134,go_sem,z0,z1,z2,z4]) rfl ⟨_,rfl,?_,?_⟩
    · rw [HX.out,dmk_zero];exact HRES.out.1
    · show Below _ _ _;rw [HBe.out];exact HRES.out.2
  · have hx0:x≠0:=by intro e;exact hk0 (hz0.2 (by omega))
    have hkb:((k:Int) == 0)=false:=beq_eq_false_iff_ne.2 (by omega)
    have HX:=Lib.hid hx0
    clear hz0
    by_cases hf:65536<f
    · have hd:dmk x f=none:=dmk_far hx0 hf
      have HD:=Lib.hid hd;clear hd hx0 hk0 hbl
      go_wp2_with fail
      refine (refBad_any _).mono ?_
      rintro e w3 ⟨rfl,hw3⟩
      have c3:=c2.below hw3
      obtain ⟨hB3,hB3'⟩:=bnext hB2 (by omega) hw3
      clear k0 k1
      have q0:=c3.c0
      have q1:=c3.c1
      have q2:=c3.c2
      have q3:=c3.c3
      have f0:=c3.f 0
      have f1:=c3.f 1
      have f2:=c3.f 2
      have f3:=c3.f 3
      have hres:=dn_stored c3 (dn_bad _) w hB3 (Nat.le_succ B)
      have z3:=c3.stored true false none 0 0 0
      have z0:=z3.c0
      have z1:=z3.c1
      have z2:=z3.c2
      have z4:=z3.c3
      have HRES:=Lib.hid hres;clear hres z3
      go_wp2
      refine bodyPost_ret (v:=.agg #[.bool true,.bool false,.slice none 0 0,.int .i64 0]) (by simp [results,Tryz.results134,go_sem,z0,z1,z2,z4]) rfl ⟨_,rfl,?_,?_⟩
      · rw [HD.out];exact HRES.out.1
      · show Below _ _ _;rw [HBe.out];exact HRES.out.2
    · obtain ⟨t,ht⟩:∃ t,tzf x.natAbs=t:=⟨_,rfl⟩
      obtain ⟨bl,hb⟩:∃ bl,blen x.natAbs=bl:=⟨_,rfl⟩
      have htl:=tzf_lt (show x.natAbs≠0 by omega)
      have hd0:dmk x f=if f < -65536 - (t:Int)∨65536 - (bl:Int)<f then none else some (x / 2^t,f+t):=by
        unfold dmk;rw [if_neg hx0,ht,hb]
      have hnd:=dmk_nd x f
      rw [ht,hb] at htl
      have hbl2:bl≤1000000:=by omega
      have HD0:=Lib.hid hd0
      have HND:=Lib.hid hnd
      have HB:=Lib.hid hb
      have HTZ:=Lib.hid ht
      clear hd0 hnd hx0 hk0 hbl hb ht
      have hrg:=hr.bg (by omega)
      have hcall:=refTz_any _ _ _ _ _ _ hrg HT.out
      rw [HTZ.out] at hcall
      have HC:=Lib.hid hcall;clear hcall
      go_wp2_with fail
      refine HC.out.mono ?_
      rintro e w3 ⟨rfl,hw3⟩
      have b3:=b2.below hw3
      have c3:=c2.below hw3
      have e3:=e1.below hw3
      have hr3:=hr.below hw3
      obtain ⟨hB3,hB3'⟩:=bnext hB2 (by omega) hw3
      have hs3:=hw3.size
      have hs3':D+1≤w3.heap.size:=by omega
      clear k0 k1 HC hw3 hs3 b2 c2 e1 hr hrg
      have k0:=e3.c0
      have k1:=e3.c1
      go_wp2_with fail
      refine (refAbs_any _ _ _ _ _ _ (hr3.bg (by omega))).mono ?_
      rintro e w4 ⟨ar,aor,ak,ac,rfl,ha4,hak,hw4⟩
      have b4:=b3.below hw4
      have c4:=c3.below hw4
      have e4:=e3.below hw4
      obtain ⟨hB4,hB4'⟩:=bnext hB3 (by omega) hw4
      have hs4:=hw4.size
      clear k0 k1 hw4 b3 c3 e3
      have k0:=e4.c0
      have k1:=e4.c1
      have k2:=e4.f 0
      have k3:=e4.f 1
      have ho:=only_set2 w4 D (.bool ar) (.slice aor ak ac)
      have e5:=e4.stored ar aor ak ac
      have b5:=b4.only ho (by omega)
      have c5:=c4.only ho (by omega)
      have ha5:Bn _ ar aor ak ac (x.natAbs:Int):=⟨ha4.neg,ha4.sl.only_box e4 ho⟩
      have hB5:=hB4.trans (ho.below (B:=B) (by omega))
      have hs5:=ho.size
      go_upto_region 9 with fail
      generalize (w4.setCell ⟨D,0,none⟩ (.bool ar)).setCell ⟨D,1,none⟩ (.slice aor ak ac)=w5 at *
      clear k0 k1 k2 k3 ho e4 b4 c4 ha4
      have k0:=e5.c0
      have k1:=e5.c1
      have k2:=e5.f 0
      have k3:=e5.f 1
      have hs5':D+1≤w5.heap.size:=by omega
      clear hs5 hs4
      go_wp2_with fail
      refine (refDown_any _ _ _ _ _ _ _ (ha5.bg (by omega)) (by omega) (by omega)).mono ?_
      rintro e w6 ⟨mr,mo,j,mc,rfl,hm6,hw6⟩
      rw [←HTZ.out] at hm6
      have b6:=b5.below hw6
      have c6:=c5.below hw6
      have e6:=e5.below hw6
      obtain ⟨hB6,hB6'⟩:=bnext hB5 (by omega) hw6
      have hs6:=hw6.size
      clear k0 k1 k2 k3 hw6 b5 c5 e5 ha5
      have k0:=e6.c0
      have k1:=e6.c1
      have k2:=e6.f 0
      have k3:=e6.f 1
      have ho:=only_set2 w6 D (.bool mr) (.slice mo j mc)
      have e7:=e6.stored mr mo j mc
      have b7:=b6.only ho (by omega)
      have c7:=c6.only ho (by omega)
      have hm7:Bn _ mr mo j mc ((x.natAbs:Int) / 2^tzf x.natAbs):=⟨hm6.neg,hm6.sl.only_box e6 ho⟩
      have hB7:=hB6.trans (ho.below (B:=B) (by omega))
      have hs7:=ho.size
      go_upto_region 10 with fail
      generalize (w6.setCell ⟨D,0,none⟩ (.bool mr)).setCell ⟨D,1,none⟩ (.slice mo j mc)=w7 at *
      clear k0 k1 k2 k3 ho e6 b6 c6 hm6
      have k0:=e7.c0
      have k1:=e7.c1
      have hs7':D+1≤w7.heap.size:=by omega
      clear hs7 hs6
      have hodd:=odd_bn hm7 HX.out (HNB.out HX.out)
      rw [HTZ.out] at hodd hm7
      have hbm:blen ((x.natAbs:Int) / 2^t).natAbs=bl - t:=by
        obtain ⟨m,h1,h2,h3⟩:=odd_part HX.out
        rw [HTZ.out] at h1
        have hp:=two_pos t
        have e2:(x.natAbs:Int)=(m.natAbs:Int)*2^t:=by
          conv=>lhs;rw [h1]
          rw [natAbs_shift];push_cast;rfl
        rw [e2,Int.mul_ediv_cancel _ (Int.ne_of_gt hp),Int.natAbs_natCast]
        have h5:=congrArg Int.natAbs h1
        rw [natAbs_shift] at h5
        have h6:=blen_mul (a:=m.natAbs) (by omega) t
        rw [←h5,HB.out] at h6
        omega
      have HBM:=Lib.hid hbm;clear hbm
      have HODD:=Lib.hid hodd
      have hjs:j≤100000:=by
        have:=limbs_of_blen (a:=((x.natAbs:Int) / 2^t).natAbs) (k:=100000) (by rw [HBM.out];omega)
        rwa [hm7.sl.len] at this
      by_cases hlo:f < -65536 - (t:Int)
      · have hd:dmk x f=none:=by rw [HD0.out,if_pos (Or.inl hlo)]
        have HD:=Lib.hid hd;clear hd
        go_wp2_with fail
        refine (refBad_any _).mono ?_
        rintro e w8 ⟨rfl,hw8⟩
        have c8:=c7.below hw8
        obtain ⟨hB8,hB8'⟩:=bnext hB7 (by omega) hw8
        clear k0 k1
        have q0:=c8.c0
        have q1:=c8.c1
        have q2:=c8.c2
        have q3:=c8.c3
        have f0:=c8.f 0
        have f1:=c8.f 1
        have f2:=c8.f 2
        have f3:=c8.f 3
        have hres:=dn_stored c8 (dn_bad _) w hB8 (Nat.le_succ B)
        have z3:=c8.stored true false none 0 0 0
        have z0:=z3.c0
        have z1:=z3.c1
        have z2:=z3.c2
        have z4:=z3.c3
        have HRES:=Lib.hid hres;clear hres z3
        go_wp2
        refine bodyPost_ret (v:=.agg #[.bool true,.bool false,.slice none 0 0,.int .i64 0]) (by simp [results,Tryz.results134,go_sem,z0,z1,z2,z4]) rfl ⟨_,rfl,?_,?_⟩
        · rw [HD.out];exact HRES.out.1
        · show Below _ _ _;rw [HBe.out];exact HRES.out.2
      · have hcall:=refBitLen_any _ _ _ _ _ _ (hm7.bg (by omega))
        rw [HBM.out] at hcall
        have HC:=Lib.hid hcall;clear hcall
        have hbt:((bl - t:Nat):Int)=(bl:Int) - t:=by omega
        have HBT:=Lib.hid hbt;clear hbt
        go_wp2_with fail
        refine HC.out.mono ?_
        rintro e w8 ⟨rfl,hw8⟩
        rw [HBT.out]
        have b8:=b7.below hw8
        have c8:=c7.below hw8
        have e8:=e7.below hw8
        have hm8:=hodd.below hw8
        obtain ⟨hB8,hB8'⟩:=bnext hB7 (by omega) hw8
        have hs8:=hw8.size
        clear k0 k1 HC hw8 b7 c7 e7 hm7 hodd HODD
        by_cases hhi:65536 - (bl:Int)<f
        · have hd:dmk x f=none:=by rw [HD0.out,if_pos (Or.inr hhi)]
          have HD:=Lib.hid hd;clear hd
          have hcmp:(f+(t:Int)+((bl:Int) - t) > 65536):=by omega
          go_wp2_with fail
          refine (refBad_any _).mono ?_
          rintro e w9 ⟨rfl,hw9⟩
          have c9:=c8.below hw9
          obtain ⟨hB9,hB9'⟩:=bnext hB8 (by omega) hw9
          have q0:=c9.c0
          have q1:=c9.c1
          have q2:=c9.c2
          have q3:=c9.c3
          have f0:=c9.f 0
          have f1:=c9.f 1
          have f2:=c9.f 2
          have f3:=c9.f 3
          have hres:=dn_stored c9 (dn_bad _) w hB9 (Nat.le_succ B)
          have z3:=c9.stored true false none 0 0 0
          have z0:=z3.c0
          have z1:=z3.c1
          have z2:=z3.c2
          have z4:=z3.c3
          have HRES:=Lib.hid hres;clear hres z3
          go_wp2
          refine bodyPost_ret (v:=.agg #[.bool true,.bool false,.slice none 0 0,.int .i64 0]) (by simp [results,Tryz.results134,go_sem,z0,z1,z2,z4]) rfl ⟨_,rfl,?_,?_⟩
          · rw [HD.out];exact HRES.out.1
          · show Below _ _ _;rw [HBe.out];exact HRES.out.2
        · have hd:dmk x f=some (x / 2^t,f+t):=by rw [HD0.out,if_neg (by omega)]
          have hcmp:¬ (f+(t:Int)+((bl:Int) - t) > 65536):=by omega
          have hnd2:=HND.out
          rw [hd] at hnd2
          have HD:=Lib.hid hd;clear hd
          have k0:=e8.c0
          have k1:=e8.c1
          have k2:=e8.f 0
          have l0:=b8.c0
          have l1:=b8.c1
          have ho:=only_set1 w8 D 0 (.bool nb)
          have e9:=e8.stored0 nb
          have c9:=c8.only ho (by omega)
          have hm9:Bn _ nb mo j mc (x / 2^t):=⟨hm8.neg,hm8.sl.only_box e8 ho⟩
          have hB9:=hB8.trans (ho.below (B:=B) (by omega))
          have hdn:Dn _ (.agg #[.bool false,.bool nb,.slice mo j mc,.int .i64 (f+t)]) (some (x / 2^t,f+t)):=dn_lit hm9 hnd2
          have HDN:=Lib.hid hdn
          clear hdn hnd2 hm9
          go_upto_region 13 with fail
          generalize w8.setCell ⟨D,0,none⟩ (.bool nb)=w9 at *
          clear k0 k1 k2 l0 l1 ho e8 b8 c8 hm8
          have k0:=e9.c0
          have k1:=e9.c1
          have q0:=c9.c0
          have q1:=c9.c1
          have q2:=c9.c2
          have q3:=c9.c3
          have f0:=c9.f 0
          have f1:=c9.f 1
          have f2:=c9.f 2
          have f3:=c9.f 3
          have hres:=dn_stored c9 HDN.out w hB9 (Nat.le_succ B)
          have z3:=c9.stored false nb mo j mc (f+t)
          have z0:=z3.c0
          have z1:=z3.c1
          have z2:=z3.c2
          have z4:=z3.c3
          have HRES:=Lib.hid hres;clear hres z3
          go_wp2
          refine bodyPost_ret (v:=.agg #[.bool false,.bool nb,.slice mo j mc,.int .i64 (f+t)]) (by simp [results,Tryz.results134,go_sem,z0,z1,z2,z4]) rfl ⟨_,rfl,?_,?_⟩
          · rw [HD.out];exact HRES.out.1
          · show Below _ _ _;rw [HBe.out];exact HRES.out.2
def Dl (w:World) (v:Value) (d:Dy):Prop :=
  ∃ bb nb ao n ca x f,v=.agg #[.bool bb,.bool nb,.slice ao n ca,.int .i64 f]∧Bg w nb ao n ca x∧blen x.natAbs≤1000000∧-9223372036854775808≤f∧f≤9223372036854775807∧d=if bb then none else dmk x f
theorem Dl.ext {w w':World} {v:Value} {d:Dy} (h:Dl w v d) (he:Ext w w'):Dl w' v d:=by
  obtain ⟨bb,nb,ao,n,ca,x,f,h1,h2,h3⟩:=h
  exact ⟨bb,nb,ao,n,ca,x,f,h1,h2.below he,h3⟩
theorem Dn.dl {w:World} {v:Value} {d:Dy} (h:Dn w v d):Dl w v d:=by
  obtain ⟨h0,nb,ao,n,ca,h1,h2⟩:=h
  obtain ⟨hb,he0,he1⟩:=nd_blen h0
  have hl:n≤4096:=by
    rw [←h2.sl.len]
    exact limbs_of_blen (by omega)
  refine ⟨_,nb,ao,n,ca,_,_,h1,h2.bg (by omega),by omega,by omega,by omega,?_⟩
  cases d with
  | none=>rfl
  | some p=>exact (dmk_norm h0).symm
set_option maxRecDepth 100000 in
set_option maxHeartbeats 2000000 in
theorem refDNorm_any (v:Value) (d:Dy) (w:World) (h:Dl w v d) (hT:Table w) :
    Calls Tryz.prog 131 #[v] w fun e w'=>∃ r,e=.returned r∧Dn w' r d∧Ext w w':=by
  obtain ⟨bb,nb,ao,n,ca,x,f,rfl,h,hbl,hf0,hf1,hd⟩:=h
  have HD:=Lib.hid hd;clear hd
  go_enter Tryz.func131,Tryz.ntmps131
  go_upto_region 1 with fail
  obtain ⟨W,hW,hB,hbx,hrx,hz⟩:=boxes_dd w bb nb ao n ca f
  rw [←hW]
  clear hW
  have h:=h.below hB
  have HT:=Lib.hid (hT.below hB)
  generalize hBe:w.heap.size=B at *
  have HBe:=Lib.hid hBe;clear hBe hT
  have k0:=hbx.c0
  have k1:=hbx.c1
  have k2:=hbx.c2
  have k3:=hbx.c3
  cases bb with
  | true =>
    go_wp2_with fail
    refine (refBad_any W).mono ?_
    rintro e w1 ⟨rfl,hw1⟩
    have c1:=hrx.below hw1
    obtain ⟨hB1,hB1'⟩:=bnext hB (by omega) hw1
    clear k0 k1 k2 k3
    have q0:=c1.c0
    have q1:=c1.c1
    have q2:=c1.c2
    have q3:=c1.c3
    have f0:=c1.f 0
    have f1:=c1.f 1
    have f2:=c1.f 2
    have f3:=c1.f 3
    have hres:=dn_stored c1 (dn_bad _) w hB1 (Nat.le_succ B)
    have z3:=c1.stored true false none 0 0 0
    have z0:=z3.c0
    have z1:=z3.c1
    have z2:=z3.c2
    have z4:=z3.c3
    have HRES:=Lib.hid hres;clear hres z3
    go_wp2
    refine bodyPost_ret (v:=.agg #[.bool true,.bool false,.slice none 0 0,.int .i64 0]) (by simp [results,Tryz.results131,go_sem,z0,z1,z2,z4]) rfl ⟨_,rfl,?_,?_⟩
    · rw [HD.out];exact HRES.out.1
    · show Below _ _ _;rw [HBe.out];exact HRES.out.2
  | false =>
    go_wp2_with fail
    refine (refMake_any _ _ _ _ _ _ _ h hbl hf0 hf1 HT.out).mono ?_
    rintro e w1 ⟨r,rfl,hr,hw1⟩
    have c1:=hrx.below hw1
    obtain ⟨hB1,hB1'⟩:=bnext hB (by omega) hw1
    obtain ⟨mbb,mb,mo,m,cb,me,rfl⟩:=hr.parts
    clear k0 k1 k2 k3 h hbl
    have q0:=c1.c0
    have q1:=c1.c1
    have q2:=c1.c2
    have q3:=c1.c3
    have f0:=c1.f 0
    have f1:=c1.f 1
    have f2:=c1.f 2
    have f3:=c1.f 3
    have hres:=dn_stored c1 hr w hB1 (Nat.le_succ B)
    have z3:=c1.stored mbb mb mo m cb me
    have z0:=z3.c0
    have z1:=z3.c1
    have z2:=z3.c2
    have z4:=z3.c3
    have HRES:=Lib.hid hres;clear hres z3
    go_wp2
    refine bodyPost_ret (v:=.agg #[.bool mbb,.bool mb,.slice mo m cb,.int .i64 me]) (by simp [results,Tryz.results131,go_sem,z0,z1,z2,z4]) rfl ⟨_,rfl,?_,?_⟩
    · rw [HD.out];exact HRES.out.1
    · show Below _ _ _;rw [HBe.out];exact HRES.out.2
set_option maxRecDepth 100000 in
set_option maxHeartbeats 2000000 in
theorem refDSign_any (v:Value) (d:Dy) (w:World) (h:Dl w v d) (hT:Table w) :
    Calls Tryz.prog 101 #[v] w fun e w'=>e=.returned (.int .i64 (sgn3 (dm d) 0))∧Ext w w':=by
  obtain ⟨bb,nb,ao,n,ca,x,f,rfl,h'⟩:=id h
  go_enter Tryz.func101,Tryz.ntmps101
  go_upto_region 1 with fail
  obtain ⟨W,hW,hB,hbx,hz⟩:=dbox_new w bb nb ao n ca f
  rw [←hW]
  clear hW
  have h:Dl W (.agg #[.bool bb,.bool nb,.slice ao n ca,.int .i64 f]) d:=Dl.ext ⟨bb,nb,ao,n,ca,x,f,rfl,h'⟩ hB
  have HT:=Lib.hid (hT.below hB)
  generalize hBe:w.heap.size=B at *
  have HBe:=Lib.hid hBe;clear hBe hT h'
  have k0:=hbx.c0
  have k1:=hbx.c1
  have k2:=hbx.c2
  have k3:=hbx.c3
  go_wp2_with fail
  refine (refDNorm_any _ _ _ h HT.out).mono ?_
  rintro e w1 ⟨r,rfl,hr,hw1⟩
  obtain ⟨mbb,mb,mo,m,cb,me,rfl⟩:=hr.parts
  have b1:=hbx.below hw1
  obtain ⟨hB1,hB1'⟩:=bnext hB (by omega) hw1
  have ho:=only_set4 w1 B (.bool mbb) (.bool mb) (.slice mo m cb) (.int .i64 me)
  have b2:=b1.stored mbb mb mo m cb me
  have hr2:=hr.only_dbox b1 ho
  have hB2:=hB1.trans (ho.below (Nat.le_refl B))
  have hz2:B≤(((((w1.setCell ⟨B,0,none⟩ (.bool mbb)).setCell ⟨B,1,none⟩ (.bool mb)).setCell ⟨B,2,none⟩ (.slice mo m cb)).setCell ⟨B,3,none⟩ (.int .i64 me))).heap.size:=by rw [ho.size];exact hB1'
  clear k0 k1 k2 k3
  have k0:=b1.c0
  have k1:=b1.c1
  have k2:=b1.c2
  have k3:=b1.c3
  have f0:=b1.f 0
  have f1:=b1.f 1
  have f2:=b1.f 2
  have f3:=b1.f 3
  go_upto_region 2 with fail
  generalize (((w1.setCell ⟨B,0,none⟩ (.bool mbb)).setCell ⟨B,1,none⟩ (.bool mb)).setCell ⟨B,2,none⟩ (.slice mo m cb)).setCell ⟨B,3,none⟩ (.int .i64 me)=w2 at *
  clear k0 k1 k2 k3 f0 f1 f2 f3 ho b1 hr hw1
  obtain ⟨hbb,_,hbn⟩:=hr2.get
  have HBB:=Lib.hid hbb;clear hbb
  have hnd:=hr2.1
  have hms:m≤4096:=by
    rw [←hbn.sl.len]
    exact limbs_of_blen (by have:=nd_blen hnd;omega)
  have k0:=b2.c0
  have k1:=b2.c1
  have k2:=b2.c2
  clear hr2 hnd
  cases mbb with
  | true =>
    have hd:d=none:=by
      have:=HBB.out
      cases d with
      | none=>rfl
      | some p=>simp at this
    have HD:=Lib.hid hd;clear hd
    go_wp2
    go_ret
    exact ⟨by rw [HD.out];rfl,by show Below _ _ _;rw [HBe.out];exact hB2⟩
  | false =>
    go_wp2_with fail
    refine (refSign_any _ _ _ _ _ _ (hbn.bg (by omega))).mono ?_
    rintro e w3 ⟨rfl,hw3⟩
    obtain ⟨hB3,hB3'⟩:=bnext hB2 hz2 hw3
    go_wp2
    go_ret
    exact ⟨rfl,by show Below _ _ _;rw [HBe.out];exact hB3⟩
end Go.Proofs.YtkomhemjodbkpaaGreatDoor
