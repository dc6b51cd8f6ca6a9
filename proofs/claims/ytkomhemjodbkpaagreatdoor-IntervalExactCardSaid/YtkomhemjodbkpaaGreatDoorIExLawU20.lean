import Derived.Test.YtkomhemjodbkpaaGreatDoorIExLawU13
import Derived.Test.YtkomhemjodbkpaaGreatDoorIExLawU19
namespace Go.Proofs.YtkomhemjodbkpaaGreatDoor
open Go.RowKit
theorem box_two_new (w:World) (nb:Bool) (ao:Option Addr) (n ca:Nat) (mb:Bool) (bo:Option Addr) (k cb:Nat) :
    Box ((w.alloc (.cells #[.bool nb,.slice ao n ca] 36)).alloc (.cells #[.bool mb,.slice bo k cb] 36)).drew w.heap.size nb ao n ca ∧
    Box ((w.alloc (.cells #[.bool nb,.slice ao n ca] 36)).alloc (.cells #[.bool mb,.slice bo k cb] 36)).drew (w.heap.size+1) mb bo k cb ∧
    Ext w ((w.alloc (.cells #[.bool nb,.slice ao n ca] 36)).alloc (.cells #[.bool mb,.slice bo k cb] 36)).drew :=
  ⟨((Box.new w nb ao n ca).below (ext_allocB _ _)).drew,(bbox_new1v w _ mb bo k cb).drew,((ext_allocB _ _).trans (ext_allocB _ _)).trans (ext_drewB _)⟩
theorem keep_cell {w wx:World} {b i:Nat} {v:Value} (h:Ext w wx) (hc:w.cell? ⟨b,i,none⟩=some v):wx.cell? ⟨b,i,none⟩=some v:=by
  rw [Below.cell (p:=⟨b,i,none⟩) h (lt_of_cell hc)];exact hc
theorem als_only {w wx:World} {r B g h:Nat} {u0 u1 u2 u3 u4 u5:Option Value} (ho:Only r w wx) (h1:r≠B) (h2:r≠B+1) (h3:r≠g) (h4:r≠h)
    (hs:w.cell? ⟨B,3,none⟩=u0∧w.cell? ⟨B+1,3,none⟩=u1∧w.cell? ⟨g,0,none⟩=u2∧w.cell? ⟨g,1,none⟩=u3∧w.cell? ⟨h,0,none⟩=u4∧w.cell? ⟨h,1,none⟩=u5) :
    wx.cell? ⟨B,3,none⟩=u0∧wx.cell? ⟨B+1,3,none⟩=u1∧wx.cell? ⟨g,0,none⟩=u2∧wx.cell? ⟨g,1,none⟩=u3∧wx.cell? ⟨h,0,none⟩=u4∧wx.cell? ⟨h,1,none⟩=u5:=by
  have e:∀ (b i:Nat),b≠r→wx.cell? ⟨b,i,none⟩=w.cell? ⟨b,i,none⟩:=fun b i hb=>World.cell?_of_block (w:=w) (ho.block b hb)
  rw [e B 3 (Ne.symm h1),e (B+1) 3 (Ne.symm h2),e g 0 (Ne.symm h3),e g 1 (Ne.symm h3),e h 0 (Ne.symm h4),e h 1 (Ne.symm h4)]
  exact hs
theorem bn_len {w:World} {nb:Bool} {ao:Option Addr} {n ca:Nat} {x:Int} (h:Bn w nb ao n ca x) (hb:blen x.natAbs≤1000000):n≤40000:=by
  rw [←h.sl.len];exact limbs_of_blen (by omega)
theorem als_stored {w:World} {r B g h:Nat} {u v:Value} {u0 u1 u2 u3 u4 u5:Option Value} (h1:r≠B) (h2:r≠B+1) (h3:r≠g) (h4:r≠h)
    (hs:w.cell? ⟨B,3,none⟩=u0∧w.cell? ⟨B+1,3,none⟩=u1∧w.cell? ⟨g,0,none⟩=u2∧w.cell? ⟨g,1,none⟩=u3∧w.cell? ⟨h,0,none⟩=u4∧w.cell? ⟨h,1,none⟩=u5) :
    ((w.setCell ⟨r,0,none⟩ u).setCell ⟨r,1,none⟩ v).cell? ⟨B,3,none⟩=u0∧((w.setCell ⟨r,0,none⟩ u).setCell ⟨r,1,none⟩ v).cell? ⟨B+1,3,none⟩=u1∧((w.setCell ⟨r,0,none⟩ u).setCell ⟨r,1,none⟩ v).cell? ⟨g,0,none⟩=u2∧((w.setCell ⟨r,0,none⟩ u).setCell ⟨r,1,none⟩ v).cell? ⟨g,1,none⟩=u3∧((w.setCell ⟨r,0,none⟩ u).setCell ⟨r,1,none⟩ v).cell? ⟨h,0,none⟩=u4∧((w.setCell ⟨r,0,none⟩ u).setCell ⟨r,1,none⟩ v).cell? ⟨h,1,none⟩=u5 :=
  als_only (only_set2 w r u v) h1 h2 h3 h4 hs
theorem al_x {w w0:World} {g h B:Nat} {nb xn yn:Bool} {ao xo yo:Option Addr} {n ca xk xc yk yc:Nat} {X Y:Int} (hg:Box w g nb ao n ca) (hh:Box w h yn yo yk yc) (hne:g≠h) (hBg:B≤g)
    (hx:Bg w xn xo xk xc X) (hy:Bg w yn yo yk yc Y) (hb:Below B w0 w) :
    Box ((w.setCell ⟨g,0,none⟩ (.bool xn)).setCell ⟨g,1,none⟩ (.slice xo xk xc)) g xn xo xk xc∧Box ((w.setCell ⟨g,0,none⟩ (.bool xn)).setCell ⟨g,1,none⟩ (.slice xo xk xc)) h yn yo yk yc∧Bg ((w.setCell ⟨g,0,none⟩ (.bool xn)).setCell ⟨g,1,none⟩ (.slice xo xk xc)) xn xo xk xc X∧Bg ((w.setCell ⟨g,0,none⟩ (.bool xn)).setCell ⟨g,1,none⟩ (.slice xo xk xc)) yn yo yk yc Y∧Below B w0 ((w.setCell ⟨g,0,none⟩ (.bool xn)).setCell ⟨g,1,none⟩ (.slice xo xk xc)):=by
  have o1:=only_set2 w g (.bool xn) (.slice xo xk xc)
  exact ⟨hg.stored xn xo xk xc,hh.only o1 hne.symm,hx.only_bx hg o1,hy.only_bx hg o1,hb.trans (o1.below hBg)⟩
theorem al_xy {w w0:World} {g h B:Nat} {nb mb xn yn:Bool} {ao bo xo yo:Option Addr} {n m ca cb xk xc yk yc:Nat} {X Y:Int} (hg:Box w g nb ao n ca) (hh:Box w h mb bo m cb) (hne:g≠h) (hBg:B≤g) (hBh:B≤h)
    (hx:Bg w xn xo xk xc X) (hy:Bg w yn yo yk yc Y) (hb:Below B w0 w) :
    Box ((((w.setCell ⟨h,0,none⟩ (.bool yn)).setCell ⟨h,1,none⟩ (.slice yo yk yc)).setCell ⟨g,0,none⟩ (.bool xn)).setCell ⟨g,1,none⟩ (.slice xo xk xc)) g xn xo xk xc∧Box ((((w.setCell ⟨h,0,none⟩ (.bool yn)).setCell ⟨h,1,none⟩ (.slice yo yk yc)).setCell ⟨g,0,none⟩ (.bool xn)).setCell ⟨g,1,none⟩ (.slice xo xk xc)) h yn yo yk yc∧Bg ((((w.setCell ⟨h,0,none⟩ (.bool yn)).setCell ⟨h,1,none⟩ (.slice yo yk yc)).setCell ⟨g,0,none⟩ (.bool xn)).setCell ⟨g,1,none⟩ (.slice xo xk xc)) xn xo xk xc X∧Bg ((((w.setCell ⟨h,0,none⟩ (.bool yn)).setCell ⟨h,1,none⟩ (.slice yo yk yc)).setCell ⟨g,0,none⟩ (.bool xn)).setCell ⟨g,1,none⟩ (.slice xo xk xc)) yn yo yk yc Y∧Below B w0 ((((w.setCell ⟨h,0,none⟩ (.bool yn)).setCell ⟨h,1,none⟩ (.slice yo yk yc)).setCell ⟨g,0,none⟩ (.bool xn)).setCell ⟨g,1,none⟩ (.slice xo xk xc)):=by
  have o1:=only_set2 w h (.bool yn) (.slice yo yk yc)
  exact al_x (hg.only o1 hne) (hh.stored yn yo yk yc) hne hBg (hx.only_bx hh o1) (hy.only_bx hh o1) (hb.trans (o1.below hBh))
set_option maxRecDepth 100000 in
set_option maxHeartbeats 16000000 in
theorem refAlign_any (nb:Bool) (ao:Option Addr) (n ca:Nat) (m e:Int) (mb:Bool) (bo:Option Addr) (k cb:Nat) (m' e':Int) (w:World) (ha:Bn w nb ao n ca m) (hb:Bn w mb bo k cb m') (hd:Nd (some (m,e))) (hd':Nd (some (m',e'))) :
    Calls Tryz.prog 133 #[.agg #[.bool false,.bool nb,.slice ao n ca,.int .i64 e],.agg #[.bool false,.bool mb,.slice bo k cb,.int .i64 e']] w fun r w' =>
      ∃ xn xo xk xc yn yo yk yc X Y E,r=.returned (.tuple #[.agg #[.bool xn,.slice xo xk xc],.agg #[.bool yn,.slice yo yk yc],.int .i64 E])∧Bg w' xn xo xk xc X∧Bg w' yn yo yk yc Y∧Aligned (some (m,e)) (some (m',e')) X Y E∧xk≤100000∧yk≤100000∧Ext w w':=by
  obtain ⟨ba,ea0,ea1⟩:=nd_blen hd
  obtain ⟨bb',eb0,eb1⟩:=nd_blen hd'
  simp only [dm,dx,Option.getD_some] at ba ea0 ea1 bb' eb0 eb1
  have hn0:n≤100000:=Nat.le_trans (bn_len ha (by omega)) (by omega)
  have hk0:k≤100000:=Nat.le_trans (bn_len hb (by omega)) (by omega)
  go_enter Tryz.func133,Tryz.ntmps133
  go_upto_region 1 with fail
  obtain ⟨W,hW,hB,hbx,hby,hr1,hr2,hz⟩:=boxes_al w false nb ao n ca e false mb bo k cb e'
  rw [←hW]
  clear hW
  have ga:=bn_bg_of (ha.below hB) (by omega)
  have gb:=bn_bg_of (hb.below hB) (by omega)
  generalize hBe:w.heap.size=B at *
  have HBe:=Lib.hid hBe;clear hBe ha hb
  have k0:=hbx.c1
  have k1:=hbx.c2
  have l0:=hby.c1
  have l1:=hby.c2
  have bl1:=hbx.lt
  have bl2:=hby.lt
  have bl3:=hr2.lt
  go_cut [7,8] from 9 (fun p q wx=>∃ g h,p=.pointer (some ⟨g,0,none⟩)∧q=.pointer (some ⟨h,0,none⟩)∧W.heap.size≤g∧W.heap.size≤h∧Box wx g nb ao n ca∧Box wx h mb bo k cb∧Ext W wx)
  case first =>
    go_region
    all_goals
      go_wp2
      go_meet
    · exact ⟨_,_,rfl,rfl,Nat.le_refl _,Nat.le_succ _,(box_two_new W nb ao n ca mb bo k cb).1,(box_two_new W nb ao n ca mb bo k cb).2.1,(box_two_new W nb ao n ca mb bo k cb).2.2⟩
    · exact ⟨_,_,rfl,rfl,Nat.le_succ _,Nat.le_refl _,(box_two_new W mb bo k cb nb ao n ca).2.1,(box_two_new W mb bo k cb nb ao n ca).1,(box_two_new W mb bo k cb nb ao n ca).2.2⟩
  case rest =>
    obtain ⟨g,h,rfl,rfl,hg0,hh0,xg,yh,hE⟩:=hcut
    have ga:=ga.below hE
    have gb:=gb.below hE
    have bx:=hbx.below hE
    have bY:=hby.below hE
    have c1:=hr1.below hE
    have c2:=hr2.below hE
    have hB1:=hB.trans (hE.mono (by omega))
    have hB1':B+4≤wc.heap.size:=by have:=hE.size;omega
    have hg1:B+4≤g:=by omega
    have hh1:B+4≤h:=by omega
    clear k0 k1 l0 l1 bl1 bl2 bl3 hbx hby hr1 hr2 hB hE hz hg0 hh0
    have x0:=xg.c0
    have x1:=xg.c1
    go_wp2_with fail
    refine (refSign_any _ _ _ _ _ _ ga).mono ?_
    rintro r w1 ⟨rfl,hw1⟩
    clear x0 x1
    have ga:=ga.below hw1
    have gb:=gb.below hw1
    have bx:=bx.below hw1
    have bY:=bY.below hw1
    have c1:=c1.below hw1
    have c2:=c2.below hw1
    have xg:=xg.below hw1
    have yh:=yh.below hw1
    have hB2:=hB1.trans (hw1.mono (by omega))
    have hB2':B+4≤w1.heap.size:=by have:=hw1.size;omega
    clear hB1 hB1' hw1
    by_cases h0:m=0
    · have hs0:(sgn3 m 0 == 0)=true:=by simp [sgn3,h0]
      have HAL:=Lib.hid (Aligned.zero1 (e:=e) hd' h0)
      clear h0
      go_upto_region 3 with fail
      have x0:=xg.c0
      have x1:=xg.c1
      have y0:=yh.c0
      have y1:=yh.c1
      have k3:=bx.c3
      have l3:=bY.c3
      have q0:=c1.c0
      have q1:=c1.c1
      have f0:=c1.f 0
      have f1:=c1.f 1
      have p0:=c2.c0
      have p1:=c2.c1
      have g0:=c2.f 0
      have g1:=c2.f 1
      have HRES:=Lib.hid (two_bigs c1 c2 (by omega) (B:=B) (by omega) (by omega) ga gb hB2)
      go_region
      obtain ⟨r1,r2,r3,r4,r5⟩:=HRES.out
      generalize hWe:World.drew _=V at r1 r2 r3 r4 r5 ⊢
      have z0:=r4.c0
      have z1:=r4.c1
      have z2:=r5.c0
      have z3:=r5.c1
      have R:=Lib.hid (And.intro r1 (And.intro r2 r3))
      clear r1 r2 r3 r4 r5 hWe q0 q1 f0 f1 p0 p1 g0 g1 HRES x0 x1 y0 y1 k3 l3
      go_wp2
      refine bodyPost_ret (v:=.tuple #[.agg #[.bool nb,.slice ao n ca],.agg #[.bool mb,.slice bo k cb],.int .i64 e']) (by simp [results,Tryz.results133,go_sem,z0,z1,z2,z3]) rfl ⟨_,_,_,_,_,_,_,_,_,_,_,rfl,R.out.1,R.out.2.1,HAL.out,hn0,hk0,?_⟩
      show Below _ _ _;rw [HBe.out];exact R.out.2.2
    · have hs0:(sgn3 m 0 == 0)=false:=by
        have:sgn3 m 0≠0:=fun h=>h0 (sgn3_zero h)
        simpa using this
      have y0:=yh.c0
      have y1:=yh.c1
      go_wp2_with fail
      refine (refSign_any _ _ _ _ _ _ gb).mono ?_
      rintro r w2 ⟨rfl,hw2⟩
      clear hs0 h0 y0 y1
      have ga:=ga.below hw2
      have gb:=gb.below hw2
      have bx:=bx.below hw2
      have bY:=bY.below hw2
      have c1:=c1.below hw2
      have c2:=c2.below hw2
      have xg:=xg.below hw2
      have yh:=yh.below hw2
      have hB3:=hB2.trans (hw2.mono (by omega))
      have hB3':B+4≤w2.heap.size:=by have:=hw2.size;omega
      clear hB2 hB2' hw2
      by_cases h0:m'=0
      · have hs0:(sgn3 m' 0 == 0)=true:=by simp [sgn3,h0]
        have HAL:=Lib.hid (Aligned.zero2 (e':=e') hd h0)
        clear h0
        go_upto_region 5 with fail
        have x0:=xg.c0
        have x1:=xg.c1
        have y0:=yh.c0
        have y1:=yh.c1
        have k3:=bx.c3
        have l3:=bY.c3
        have q0:=c1.c0
        have q1:=c1.c1
        have f0:=c1.f 0
        have f1:=c1.f 1
        have p0:=c2.c0
        have p1:=c2.c1
        have g0:=c2.f 0
        have g1:=c2.f 1
        have HRES:=Lib.hid (two_bigs c1 c2 (by omega) (B:=B) (by omega) (by omega) ga gb hB3)
        go_region
        obtain ⟨r1,r2,r3,r4,r5⟩:=HRES.out
        generalize hWe:World.drew _=V at r1 r2 r3 r4 r5 ⊢
        have z0:=r4.c0
        have z1:=r4.c1
        have z2:=r5.c0
        have z3:=r5.c1
        have R:=Lib.hid (And.intro r1 (And.intro r2 r3))
        clear r1 r2 r3 r4 r5 hWe q0 q1 f0 f1 p0 p1 g0 g1 HRES x0 x1 y0 y1 k3 l3
        go_wp2
        refine bodyPost_ret (v:=.tuple #[.agg #[.bool nb,.slice ao n ca],.agg #[.bool mb,.slice bo k cb],.int .i64 e]) (by simp [results,Tryz.results133,go_sem,z0,z1,z2,z3]) rfl ⟨_,_,_,_,_,_,_,_,_,_,_,rfl,R.out.1,R.out.2.1,HAL.out,hn0,hk0,?_⟩
        show Below _ _ _;rw [HBe.out];exact R.out.2.2
      · have hs0:(sgn3 m' 0 == 0)=false:=by
          have:sgn3 m' 0≠0:=fun h=>h0 (sgn3_zero h)
          simpa using this
        clear h0
        by_cases hgt:e'<e
        · have HAL:=Lib.hid (Aligned.mk1 hd hd' (by omega))
          obtain ⟨sh,hsh⟩:∃ sh:Nat,(e - e').toNat=sh:=⟨_,rfl⟩
          have hsh2:e - e'=(sh:Int):=by omega
          rw [hsh] at HAL
          clear hsh
          have HC:=Lib.hid (show ∀ wx,Ext w2 wx→(wx.cell? ⟨B,3,none⟩=some (.int .i64 e)∧wx.cell? ⟨B+1,3,none⟩=some (.int .i64 e')∧wx.cell? ⟨g,0,none⟩=some (.bool nb)∧wx.cell? ⟨g,1,none⟩=some (.slice ao n ca)∧wx.cell? ⟨h,0,none⟩=some (.bool mb)∧wx.cell? ⟨h,1,none⟩=some (.slice bo k cb)) from fun wx hx=>⟨(bx.below hx).c3,(bY.below hx).c3,(xg.below hx).c0,(xg.below hx).c1,(yh.below hx).c0,(yh.below hx).c1⟩)
          have hwy:(((w2.drew.setCell ⟨B+1+1+1,0,none⟩ (.bool mb)).setCell ⟨B+1+1+1,1,none⟩ (.slice bo k cb)).cell? ⟨B,3,none⟩=some (.int .i64 e)∧((w2.drew.setCell ⟨B+1+1+1,0,none⟩ (.bool mb)).setCell ⟨B+1+1+1,1,none⟩ (.slice bo k cb)).cell? ⟨B+1,3,none⟩=some (.int .i64 e')∧((w2.drew.setCell ⟨B+1+1+1,0,none⟩ (.bool mb)).setCell ⟨B+1+1+1,1,none⟩ (.slice bo k cb)).cell? ⟨g,0,none⟩=some (.bool nb)∧((w2.drew.setCell ⟨B+1+1+1,0,none⟩ (.bool mb)).setCell ⟨B+1+1+1,1,none⟩ (.slice bo k cb)).cell? ⟨g,1,none⟩=some (.slice ao n ca)∧((w2.drew.setCell ⟨B+1+1+1,0,none⟩ (.bool mb)).setCell ⟨B+1+1+1,1,none⟩ (.slice bo k cb)).cell? ⟨h,0,none⟩=some (.bool mb)∧((w2.drew.setCell ⟨B+1+1+1,0,none⟩ (.bool mb)).setCell ⟨B+1+1+1,1,none⟩ (.slice bo k cb)).cell? ⟨h,1,none⟩=some (.slice bo k cb)):=als_stored (by omega) (by omega) (by omega) (by omega) (HC.out _ (ext_drewB _))
          have HC1:=Lib.hid (show ∀ wx,Ext ((w2.drew.setCell ⟨B+1+1+1,0,none⟩ (.bool mb)).setCell ⟨B+1+1+1,1,none⟩ (.slice bo k cb)) wx→(wx.cell? ⟨B,3,none⟩=some (.int .i64 e)∧wx.cell? ⟨B+1,3,none⟩=some (.int .i64 e')∧wx.cell? ⟨g,0,none⟩=some (.bool nb)∧wx.cell? ⟨g,1,none⟩=some (.slice ao n ca)∧wx.cell? ⟨h,0,none⟩=some (.bool mb)∧wx.cell? ⟨h,1,none⟩=some (.slice bo k cb)) from fun wx hx=>⟨keep_cell hx hwy.1,keep_cell hx hwy.2.1,keep_cell hx hwy.2.2.1,keep_cell hx hwy.2.2.2.1,keep_cell hx hwy.2.2.2.2.1,keep_cell hx hwy.2.2.2.2.2⟩)
          have HP0:=Lib.hid (show ∀ wx,Ext w2 wx→Box wx (B+1+1) false none 0 0∧Box wx (B+1+1+1) false none 0 0∧Bg wx nb ao n ca m∧Bg wx mb bo k cb m'∧Below B w wx from fun wx hx=>⟨c1.below hx,c2.below hx,ga.below hx,gb.below hx,hB3.trans (hx.mono (by omega))⟩)
          have o1:=only_set2 w2.drew (B+1+1+1) (.bool mb) (.slice bo k cb)
          have hp1:Box ((w2.drew.setCell ⟨B+1+1+1,0,none⟩ (.bool mb)).setCell ⟨B+1+1+1,1,none⟩ (.slice bo k cb)) (B+1+1) false none 0 0∧Box ((w2.drew.setCell ⟨B+1+1+1,0,none⟩ (.bool mb)).setCell ⟨B+1+1+1,1,none⟩ (.slice bo k cb)) (B+1+1+1) mb bo k cb∧Bg ((w2.drew.setCell ⟨B+1+1+1,0,none⟩ (.bool mb)).setCell ⟨B+1+1+1,1,none⟩ (.slice bo k cb)) nb ao n ca m∧Bg ((w2.drew.setCell ⟨B+1+1+1,0,none⟩ (.bool mb)).setCell ⟨B+1+1+1,1,none⟩ (.slice bo k cb)) mb bo k cb m'∧Below B w ((w2.drew.setCell ⟨B+1+1+1,0,none⟩ (.bool mb)).setCell ⟨B+1+1+1,1,none⟩ (.slice bo k cb)) :=
            ⟨c1.drew.only o1 (by omega),c2.drew.stored mb bo k cb,ga.drew.only_bx c2.drew o1,gb.drew.only_bx c2.drew o1,(hB3.trans (Below.mono (ext_drewB w2) (by omega))).trans (o1.below (by omega))⟩
          have hsz1:B+4≤(((w2.drew.setCell ⟨B+1+1+1,0,none⟩ (.bool mb)).setCell ⟨B+1+1+1,1,none⟩ (.slice bo k cb))).heap.size:=by rw [o1.size];exact hB3'
          have HP1:=Lib.hid (show ∀ wx,Ext ((w2.drew.setCell ⟨B+1+1+1,0,none⟩ (.bool mb)).setCell ⟨B+1+1+1,1,none⟩ (.slice bo k cb)) wx→Box wx (B+1+1) false none 0 0∧Box wx (B+1+1+1) mb bo k cb∧Bg wx nb ao n ca m∧Bg wx mb bo k cb m'∧Below B w wx from fun wx hx=>⟨hp1.1.below hx,hp1.2.1.below hx,hp1.2.2.1.below hx,hp1.2.2.2.1.below hx,hp1.2.2.2.2.trans (hx.mono (by omega))⟩)
          clear hwy hp1 o1 hsz1
          have HN2:=Lib.hid (show B+1+1≠B∧B+1+1≠B+1∧B+1+1≠g∧B+1+1≠h from ⟨by omega,by omega,by omega,by omega⟩)
          have HN3:=Lib.hid (show B+1+1+1≠B∧B+1+1+1≠B+1∧B+1+1+1≠g∧B+1+1+1≠h from ⟨by omega,by omega,by omega,by omega⟩)
          have HSH:=Lib.hid (show sh≤1048576 by omega)
          have hwr:IntKind.i64.wrap (e - e')=(sh:Int):=by rw [IntWalk.i64_in (e - e') ⟨by omega,by omega⟩];exact hsh2
          clear hsh2
          obtain ⟨k3,l3,x0,x1,y0,y1⟩:=HC.out w2 (Ext.refl _)
          have q0:=c1.c0
          have q1:=c1.c1
          have f0:=c1.f 0
          have f1:=c1.f 1
          have p0:=c2.c0
          have p1:=c2.c1
          have g0:=c2.f 0
          have g1:=c2.f 1
          clear ga gb bx bY c1 c2 xg yh
          go_upto_region 7 with fail
          go_cut [6] from 35 (fun p wx=>p=.int .i64 e'∧∃ rn ro rk rc,rk≤100000∧Box wx (B+1+1) rn ro rk rc∧Box wx (B+1+1+1) mb bo k cb∧Bg wx rn ro rk rc (m*2^sh)∧Bg wx mb bo k cb m'∧Below B w wx)
          case first =>
            go_region_held3 (fun wx=>(wx.cell? ⟨B,3,none⟩=some (.int .i64 e)∧wx.cell? ⟨B+1,3,none⟩=some (.int .i64 e')∧wx.cell? ⟨g,0,none⟩=some (.bool nb)∧wx.cell? ⟨g,1,none⟩=some (.slice ao n ca)∧wx.cell? ⟨h,0,none⟩=some (.bool mb)∧wx.cell? ⟨h,1,none⟩=some (.slice bo k cb)))
              ((first | with_reducible exact HC.out _ (ext_drewB _) | with_reducible exact HC1.out _ (Ext.refl _) | with_reducible exact HC.out _ ex3 | with_reducible exact HC1.out _ ex3 | with_reducible exact als_stored HN2.out.1 HN2.out.2.1 HN2.out.2.2.1 HN2.out.2.2.2 (HC.out _ ex3) | with_reducible exact als_stored HN3.out.1 HN3.out.2.1 HN3.out.2.2.1 HN3.out.2.2.2 (HC.out _ ex3) | with_reducible exact als_stored HN2.out.1 HN2.out.2.1 HN2.out.2.2.1 HN2.out.2.2.2 (als_stored HN3.out.1 HN3.out.2.1 HN3.out.2.2.1 HN3.out.2.2.2 (HC.out _ ex3)) | with_reducible exact als_stored HN3.out.1 HN3.out.2.1 HN3.out.2.2.1 HN3.out.2.2.2 (als_stored HN2.out.1 HN2.out.2.1 HN2.out.2.2.1 HN2.out.2.2.2 (HC.out _ ex3)) | with_reducible exact als_stored HN2.out.1 HN2.out.2.1 HN2.out.2.2.1 HN2.out.2.2.2 (HC1.out _ ex3) | with_reducible exact als_stored HN3.out.1 HN3.out.2.1 HN3.out.2.2.1 HN3.out.2.2.2 (HC1.out _ ex3) | with_reducible exact als_stored HN2.out.1 HN2.out.2.1 HN2.out.2.2.1 HN2.out.2.2.2 (als_stored HN3.out.1 HN3.out.2.1 HN3.out.2.2.1 HN3.out.2.2.2 (HC1.out _ ex3)) | with_reducible exact als_stored HN3.out.1 HN3.out.2.1 HN3.out.2.2.1 HN3.out.2.2.2 (als_stored HN2.out.1 HN2.out.2.1 HN2.out.2.2.1 HN2.out.2.2.2 (HC1.out _ ex3))))
              (first
                | (go_at_call 171;refine (refShift_up nb ao n ca m sh _ (by first | with_reducible exact (HP0.out _ (ext_drewB _)).2.2.1 | with_reducible exact (HP1.out _ (Ext.refl _)).2.2.1) HSH.out).mono ?_;rintro r w3 ⟨rn,ro,rk,rc,rfl,hr,-,hw3⟩;(first | (have ex3:Ext w2 w3:=(ext_drewB w2).trans hw3;obtain ⟨d1,d2,ga3,gb3,hB4⟩:=HP0.out w3 ex3) | (have ex3:=hw3;obtain ⟨d1,d2,ga3,gb3,hB4⟩:=HP1.out w3 hw3));clear q0 q1 f0 f1 p0 p1 g0 g1;have q0:=d1.c0;have q1:=d1.c1;have f0:=d1.f 0;have f1:=d1.f 1;have p0:=d2.c0;have p1:=d2.c1;have g0:=d2.f 0;have g1:=d2.f 1))
            all_goals
              have gr:=bn_bg_of hr (by have:=HAL.out.2.2.2.2.1;omega)
              have hrk:rk≤100000:=Nat.le_trans (bn_len hr (by have:=HAL.out.2.2.2.2.1;omega)) (by omega)
              clear q0 q1 f0 f1 p0 p1 g0 g1
              go_wp2
              go_meet
            all_goals
              refine ⟨rfl,rn,ro,rk,rc,hrk,?_⟩
              first
                | with_reducible exact al_x d1 d2 (by omega) (by omega) gr gb3 hB4
                | with_reducible exact al_xy d1 d2 (by omega) (by omega) (by omega) gr gb3 hB4
                | (have F:=al_xy d2 d1 (by omega) (by omega) (by omega) gb3 gr hB4;with_reducible exact ⟨F.2.1,F.1,F.2.2.2.1,F.2.2.1,F.2.2.2.2⟩)
          case rest =>
            obtain ⟨rfl,rn,ro,rk,rc,hrk,hb1,hb2,hx2,hy2,hB4⟩:=hcut
            have z0:=hb1.c0
            have z1:=hb1.c1
            have z2:=hb2.c0
            have z3:=hb2.c1
            go_wp2
            refine bodyPost_ret (v:=.tuple #[.agg #[.bool rn,.slice ro rk rc],.agg #[.bool mb,.slice bo k cb],.int .i64 e']) (by simp [results,Tryz.results133,go_sem,z0,z1,z2,z3]) rfl ⟨_,_,_,_,_,_,_,_,_,_,_,rfl,hx2,hy2,HAL.out,hrk,hk0,?_⟩
            show Below _ _ _;rw [HBe.out];exact hB4
        · have HAL:=Lib.hid (Aligned.mk2 hd hd' (by omega))
          obtain ⟨sh,hsh⟩:∃ sh:Nat,(e' - e).toNat=sh:=⟨_,rfl⟩
          have hsh2:e' - e=(sh:Int):=by omega
          rw [hsh] at HAL
          clear hsh
          have HC:=Lib.hid (show ∀ wx,Ext w2 wx→(wx.cell? ⟨B,3,none⟩=some (.int .i64 e)∧wx.cell? ⟨B+1,3,none⟩=some (.int .i64 e')∧wx.cell? ⟨g,0,none⟩=some (.bool nb)∧wx.cell? ⟨g,1,none⟩=some (.slice ao n ca)∧wx.cell? ⟨h,0,none⟩=some (.bool mb)∧wx.cell? ⟨h,1,none⟩=some (.slice bo k cb)) from fun wx hx=>⟨(bx.below hx).c3,(bY.below hx).c3,(xg.below hx).c0,(xg.below hx).c1,(yh.below hx).c0,(yh.below hx).c1⟩)
          have hwy:(((w2.drew.setCell ⟨B+1+1,0,none⟩ (.bool nb)).setCell ⟨B+1+1,1,none⟩ (.slice ao n ca)).cell? ⟨B,3,none⟩=some (.int .i64 e)∧((w2.drew.setCell ⟨B+1+1,0,none⟩ (.bool nb)).setCell ⟨B+1+1,1,none⟩ (.slice ao n ca)).cell? ⟨B+1,3,none⟩=some (.int .i64 e')∧((w2.drew.setCell ⟨B+1+1,0,none⟩ (.bool nb)).setCell ⟨B+1+1,1,none⟩ (.slice ao n ca)).cell? ⟨g,0,none⟩=some (.bool nb)∧((w2.drew.setCell ⟨B+1+1,0,none⟩ (.bool nb)).setCell ⟨B+1+1,1,none⟩ (.slice ao n ca)).cell? ⟨g,1,none⟩=some (.slice ao n ca)∧((w2.drew.setCell ⟨B+1+1,0,none⟩ (.bool nb)).setCell ⟨B+1+1,1,none⟩ (.slice ao n ca)).cell? ⟨h,0,none⟩=some (.bool mb)∧((w2.drew.setCell ⟨B+1+1,0,none⟩ (.bool nb)).setCell ⟨B+1+1,1,none⟩ (.slice ao n ca)).cell? ⟨h,1,none⟩=some (.slice bo k cb)):=als_stored (by omega) (by omega) (by omega) (by omega) (HC.out _ (ext_drewB _))
          have HC1:=Lib.hid (show ∀ wx,Ext ((w2.drew.setCell ⟨B+1+1,0,none⟩ (.bool nb)).setCell ⟨B+1+1,1,none⟩ (.slice ao n ca)) wx→(wx.cell? ⟨B,3,none⟩=some (.int .i64 e)∧wx.cell? ⟨B+1,3,none⟩=some (.int .i64 e')∧wx.cell? ⟨g,0,none⟩=some (.bool nb)∧wx.cell? ⟨g,1,none⟩=some (.slice ao n ca)∧wx.cell? ⟨h,0,none⟩=some (.bool mb)∧wx.cell? ⟨h,1,none⟩=some (.slice bo k cb)) from fun wx hx=>⟨keep_cell hx hwy.1,keep_cell hx hwy.2.1,keep_cell hx hwy.2.2.1,keep_cell hx hwy.2.2.2.1,keep_cell hx hwy.2.2.2.2.1,keep_cell hx hwy.2.2.2.2.2⟩)
          have HP0:=Lib.hid (show ∀ wx,Ext w2 wx→Box wx (B+1+1) false none 0 0∧Box wx (B+1+1+1) false none 0 0∧Bg wx nb ao n ca m∧Bg wx mb bo k cb m'∧Below B w wx from fun wx hx=>⟨c1.below hx,c2.below hx,ga.below hx,gb.below hx,hB3.trans (hx.mono (by omega))⟩)
          have o1:=only_set2 w2.drew (B+1+1) (.bool nb) (.slice ao n ca)
          have hp1:Box ((w2.drew.setCell ⟨B+1+1,0,none⟩ (.bool nb)).setCell ⟨B+1+1,1,none⟩ (.slice ao n ca)) (B+1+1) nb ao n ca∧Box ((w2.drew.setCell ⟨B+1+1,0,none⟩ (.bool nb)).setCell ⟨B+1+1,1,none⟩ (.slice ao n ca)) (B+1+1+1) false none 0 0∧Bg ((w2.drew.setCell ⟨B+1+1,0,none⟩ (.bool nb)).setCell ⟨B+1+1,1,none⟩ (.slice ao n ca)) nb ao n ca m∧Bg ((w2.drew.setCell ⟨B+1+1,0,none⟩ (.bool nb)).setCell ⟨B+1+1,1,none⟩ (.slice ao n ca)) mb bo k cb m'∧Below B w ((w2.drew.setCell ⟨B+1+1,0,none⟩ (.bool nb)).setCell ⟨B+1+1,1,none⟩ (.slice ao n ca)) :=
            ⟨c1.drew.stored nb ao n ca,c2.drew.only o1 (by omega),ga.drew.only_bx c1.drew o1,gb.drew.only_bx c1.drew o1,(hB3.trans (Below.mono (ext_drewB w2) (by omega))).trans (o1.below (by omega))⟩
          have hsz1:B+4≤(((w2.drew.setCell ⟨B+1+1,0,none⟩ (.bool nb)).setCell ⟨B+1+1,1,none⟩ (.slice ao n ca))).heap.size:=by rw [o1.size];exact hB3'
          have HP1:=Lib.hid (show ∀ wx,Ext ((w2.drew.setCell ⟨B+1+1,0,none⟩ (.bool nb)).setCell ⟨B+1+1,1,none⟩ (.slice ao n ca)) wx→Box wx (B+1+1) nb ao n ca∧Box wx (B+1+1+1) false none 0 0∧Bg wx nb ao n ca m∧Bg wx mb bo k cb m'∧Below B w wx from fun wx hx=>⟨hp1.1.below hx,hp1.2.1.below hx,hp1.2.2.1.below hx,hp1.2.2.2.1.below hx,hp1.2.2.2.2.trans (hx.mono (by omega))⟩)
          clear hwy hp1 o1 hsz1
          have HN2:=Lib.hid (show B+1+1≠B∧B+1+1≠B+1∧B+1+1≠g∧B+1+1≠h from ⟨by omega,by omega,by omega,by omega⟩)
          have HN3:=Lib.hid (show B+1+1+1≠B∧B+1+1+1≠B+1∧B+1+1+1≠g∧B+1+1+1≠h from ⟨by omega,by omega,by omega,by omega⟩)
          have HSH:=Lib.hid (show sh≤1048576 by omega)
          have hwr:IntKind.i64.wrap (e' - e)=(sh:Int):=by rw [IntWalk.i64_in (e' - e) ⟨by omega,by omega⟩];exact hsh2
          clear hsh2
          obtain ⟨k3,l3,x0,x1,y0,y1⟩:=HC.out w2 (Ext.refl _)
          have q0:=c1.c0
          have q1:=c1.c1
          have f0:=c1.f 0
          have f1:=c1.f 1
          have p0:=c2.c0
          have p1:=c2.c1
          have g0:=c2.f 0
          have g1:=c2.f 1
          clear ga gb bx bY c1 c2 xg yh
          go_upto_region 8 with fail
          go_cut [6] from 35 (fun p wx=>p=.int .i64 e∧∃ rn ro rk rc,rk≤100000∧Box wx (B+1+1+1) rn ro rk rc∧Box wx (B+1+1) nb ao n ca∧Bg wx rn ro rk rc (m'*2^sh)∧Bg wx nb ao n ca m∧Below B w wx)
          case first =>
            go_region_held3 (fun wx=>(wx.cell? ⟨B,3,none⟩=some (.int .i64 e)∧wx.cell? ⟨B+1,3,none⟩=some (.int .i64 e')∧wx.cell? ⟨g,0,none⟩=some (.bool nb)∧wx.cell? ⟨g,1,none⟩=some (.slice ao n ca)∧wx.cell? ⟨h,0,none⟩=some (.bool mb)∧wx.cell? ⟨h,1,none⟩=some (.slice bo k cb)))
              ((first | with_reducible exact HC.out _ (ext_drewB _) | with_reducible exact HC1.out _ (Ext.refl _) | with_reducible exact HC.out _ ex3 | with_reducible exact HC1.out _ ex3 | with_reducible exact als_stored HN3.out.1 HN3.out.2.1 HN3.out.2.2.1 HN3.out.2.2.2 (HC.out _ ex3) | with_reducible exact als_stored HN2.out.1 HN2.out.2.1 HN2.out.2.2.1 HN2.out.2.2.2 (HC.out _ ex3) | with_reducible exact als_stored HN3.out.1 HN3.out.2.1 HN3.out.2.2.1 HN3.out.2.2.2 (als_stored HN2.out.1 HN2.out.2.1 HN2.out.2.2.1 HN2.out.2.2.2 (HC.out _ ex3)) | with_reducible exact als_stored HN2.out.1 HN2.out.2.1 HN2.out.2.2.1 HN2.out.2.2.2 (als_stored HN3.out.1 HN3.out.2.1 HN3.out.2.2.1 HN3.out.2.2.2 (HC.out _ ex3)) | with_reducible exact als_stored HN3.out.1 HN3.out.2.1 HN3.out.2.2.1 HN3.out.2.2.2 (HC1.out _ ex3) | with_reducible exact als_stored HN2.out.1 HN2.out.2.1 HN2.out.2.2.1 HN2.out.2.2.2 (HC1.out _ ex3) | with_reducible exact als_stored HN3.out.1 HN3.out.2.1 HN3.out.2.2.1 HN3.out.2.2.2 (als_stored HN2.out.1 HN2.out.2.1 HN2.out.2.2.1 HN2.out.2.2.2 (HC1.out _ ex3)) | with_reducible exact als_stored HN2.out.1 HN2.out.2.1 HN2.out.2.2.1 HN2.out.2.2.2 (als_stored HN3.out.1 HN3.out.2.1 HN3.out.2.2.1 HN3.out.2.2.2 (HC1.out _ ex3))))
              (first
                | (go_at_call 171;refine (refShift_up mb bo k cb m' sh _ (by first | with_reducible exact (HP0.out _ (ext_drewB _)).2.2.2.1 | with_reducible exact (HP1.out _ (Ext.refl _)).2.2.2.1) HSH.out).mono ?_;rintro r w3 ⟨rn,ro,rk,rc,rfl,hr,-,hw3⟩;(first | (have ex3:Ext w2 w3:=(ext_drewB w2).trans hw3;obtain ⟨d1,d2,ga3,gb3,hB4⟩:=HP0.out w3 ex3) | (have ex3:=hw3;obtain ⟨d1,d2,ga3,gb3,hB4⟩:=HP1.out w3 hw3));clear q0 q1 f0 f1 p0 p1 g0 g1;have q0:=d1.c0;have q1:=d1.c1;have f0:=d1.f 0;have f1:=d1.f 1;have p0:=d2.c0;have p1:=d2.c1;have g0:=d2.f 0;have g1:=d2.f 1))
            all_goals
              have gr:=bn_bg_of hr (by have:=HAL.out.2.2.2.2.2;omega)
              have hrk:rk≤100000:=Nat.le_trans (bn_len hr (by have:=HAL.out.2.2.2.2.2;omega)) (by omega)
              clear q0 q1 f0 f1 p0 p1 g0 g1
              go_wp2
              go_meet
            all_goals
              refine ⟨rfl,rn,ro,rk,rc,hrk,?_⟩
              first
                | with_reducible exact al_x d2 d1 (by omega) (by omega) gr ga3 hB4
                | with_reducible exact al_xy d2 d1 (by omega) (by omega) (by omega) gr ga3 hB4
                | (have F:=al_xy d1 d2 (by omega) (by omega) (by omega) ga3 gr hB4;with_reducible exact ⟨F.2.1,F.1,F.2.2.2.1,F.2.2.1,F.2.2.2.2⟩)
          case rest =>
            obtain ⟨rfl,rn,ro,rk,rc,hrk,hb1,hb2,hx2,hy2,hB4⟩:=hcut
            have z0:=hb2.c0
            have z1:=hb2.c1
            have z2:=hb1.c0
            have z3:=hb1.c1
            go_wp2
            refine bodyPost_ret (v:=.tuple #[.agg #[.bool nb,.slice ao n ca],.agg #[.bool rn,.slice ro rk rc],.int .i64 e]) (by simp [results,Tryz.results133,go_sem,z0,z1,z2,z3]) rfl ⟨_,_,_,_,_,_,_,_,_,_,_,rfl,hy2,hx2,HAL.out,hn0,hrk,?_⟩
            show Below _ _ _;rw [HBe.out];exact hB4
end Go.Proofs.YtkomhemjodbkpaaGreatDoor
