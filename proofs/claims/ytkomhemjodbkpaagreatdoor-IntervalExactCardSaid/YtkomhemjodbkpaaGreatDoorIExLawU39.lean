import Derived.Test.YtkomhemjodbkpaaGreatDoorIExLawU38
import Derived.Test.YtkomhemjodbkpaaGreatDoorIExLawU10
import Derived.Test.YtkomhemjodbkpaaGreatDoorIExLawU19
import Derived.Test.YtkomhemjodbkpaaGreatDoorIExLawU13
import Derived.Test.YtkomhemjodbkpaaGreatDoorIExLawU37
import Derived.Test.YtkomhemjodbkpaaGreatDoorIExLawU20
import Derived.Deep.CutBlock
namespace Go.Proofs.YtkomhemjodbkpaaGreatDoor
open Go Go.RowKit
theorem four_le (p q:Nat):4*(p*q)≤(p+q)*(p+q):=by
  have h:=sq_nonneg ((p:Int) - q)
  rw [sq_sub] at h
  have e:((p+q:Nat):Int)*((p+q:Nat):Int)=(p:Int)*p+2*((p:Int)*q)+(q:Int)*q:=by
    rw [Int.natCast_add];exact sq_add _ _
  have e2:((4*(p*q):Nat):Int)=4*((p:Int)*q):=by simp
  have:((4*(p*q):Nat):Int)≤(((p+q)*(p+q):Nat):Int):=by
    rw [Int.natCast_mul (p+q),e,e2];omega
  exact Int.ofNat_le.1 this
theorem newt_above {a x:Nat} (hx:0<x) (ha:0<a):0<(x+a / x) / 2∧a<((x+a / x) / 2+1)*((x+a / x) / 2+1):=by
  have h1:=Nat.div_add_mod a x
  have h2:=Nat.mod_lt a hx
  have hlt:a<x*(a / x+1):=by rw [Nat.mul_add,Nat.mul_one];omega
  generalize hq:a / x=q at *
  generalize hy:(x+q) / 2=y at *
  have hy2:x+(q+1)≤2*(y+1):=by omega
  have h3:=four_le x (q+1)
  have h4:(x+(q+1))*(x+(q+1))≤(2*(y+1))*(2*(y+1)):=Nat.mul_le_mul hy2 hy2
  have h5:(2*(y+1))*(2*(y+1))=4*((y+1)*(y+1)):=by
    rw [Nat.mul_mul_mul_comm]
  have h6:a<(y+1)*(y+1):=by omega
  refine ⟨?_,h6⟩
  rcases Nat.eq_zero_or_pos y with h | h
  · rw [h] at h6;omega
  · exact h
theorem newt_stop {a x:Nat} (hx:0<x) (h:x≤(x+a / x) / 2):x*x≤a:=by
  have h1:x≤a / x:=by omega
  exact (Nat.le_div_iff_mul_le hx).1 h1
theorem newt_start {a:Nat} (ha:a≠0):a<(2^((blen a+1) / 2)+1)*(2^((blen a+1) / 2)+1):=by
  obtain ⟨l,h1,_,h2⟩:=blen_spec ha
  rw [h1]
  have h3:2^(l+1)≤2^((l+1+1) / 2)*2^((l+1+1) / 2):=by
    rw [←Nat.pow_add];exact Nat.pow_le_pow_right (by omega) (by omega)
  have h4:2^((l+1+1) / 2)*2^((l+1+1) / 2)≤(2^((l+1+1) / 2)+1)*(2^((l+1+1) / 2)+1):=Nat.mul_le_mul (Nat.le_succ _) (Nat.le_succ _)
  omega
def IsNum (w:World) (g x:Nat):Prop:=∃ nb ao n ca,Box w g nb ao n ca∧Bn w nb ao n ca (x:Int)
theorem IsNum.unique {w:World} {g x y:Nat} (h:IsNum w g x) (k:IsNum w g y):x=y:=by
  obtain ⟨nb,ao,n,ca,b1,n1⟩:=h
  obtain ⟨mb,bo,m,cb,b2,n2⟩:=k
  unfold Box at b1 b2
  rw [b1] at b2
  injection b2 with b2
  injection b2 with b2
  have e1:Value.slice ao n ca=.slice bo m cb:=by
    have:=congrArg (fun (a:Array Value)=>a[1]?) b2
    simpa using this
  injection e1 with e1 e2 e3
  subst e1 e2 e3
  have s1:=n1.sl
  have s2:=n2.sl
  rw [Int.natAbs_natCast] at s1 s2
  have hl:limbs x=limbs y:=by
    refine List.ext_getElem (by rw [s1.len,s2.len]) fun j h1 h2=>?_
    have hn:0<n:=by rw [s1.len] at h1;omega
    obtain ⟨b,o,e,c1⟩:=s1.cells (by rw [s1.len];exact hn)
    obtain ⟨b',o',e',c2⟩:=s2.cells (by rw [s2.len];exact hn)
    rw [e] at e'
    cases e'
    have g1:=c1 j h1
    have g2:=c2 j h2
    rw [g1] at g2
    injection g2 with g2
    injection g2 with _ g2
    simpa [List.getD,h1,h2] using g2
  exact limbs_inj hl
noncomputable def numAt (w:World) (g:Nat):Nat:=by
  classical
  exact if h:∃ x,IsNum w g x then h.choose else 0
theorem numAt_is {w:World} {g x:Nat} (h:IsNum w g x):numAt w g=x:=by
  have hx:∃ x,IsNum w g x:=⟨x,h⟩
  unfold numAt
  rw [dif_pos hx]
  exact hx.choose_spec.unique h
open Go Go.RowKit
theorem ext_allocB2 {V w:World} (h:Ext V w) (o:Obj):Ext V (w.alloc o):=Ext.trans h ((Below.refl _ _).alloc (Nat.le_refl _) _)
theorem ext_adB (V:World) (o:Obj):Ext V (V.alloc o).drew:=((Below.refl _ _).alloc (Nat.le_refl _) _).drew
theorem bbox_stored {W w:World} {g:Nat} {nb mb:Bool} {ao bo:Option Addr} {n ca m cb:Nat} {x:Int} (hx:Box w g nb ao n ca) (h:Bn w mb bo m cb x) (hw:Ext W w) (hg:W.heap.size≤g) :
    Bn ((w.setCell ⟨g,0,none⟩ (.bool mb)).setCell ⟨g,1,none⟩ (.slice bo m cb)) mb bo m cb x ∧
    Box ((w.setCell ⟨g,0,none⟩ (.bool mb)).setCell ⟨g,1,none⟩ (.slice bo m cb)) g mb bo m cb ∧
    Ext W ((w.setCell ⟨g,0,none⟩ (.bool mb)).setCell ⟨g,1,none⟩ (.slice bo m cb)) :=
  ⟨Bn.only_bx' h hx (only_set2 _ _ _ _),hx.stored _ _ _ _,Below.trans hw ((only_set2 w g (.bool mb) (.slice bo m cb)).below hg)⟩
theorem boxes_twoB (w:World) (nb:Bool) (ao:Option Addr) (n ca:Nat) (mb:Bool) (bo:Option Addr) (m cb:Nat) :
    ∃ W,W=(w.alloc (.cells #[.bool nb,.slice ao n ca] 36)).alloc (.cells #[.bool mb,.slice bo m cb] 36)∧Ext w W∧Box W w.heap.size nb ao n ca∧Box W (w.heap.size+1) mb bo m cb :=
  ⟨_,rfl,Ext.trans (ext_allocB _ _) (ext_allocB _ _),(Box.new w nb ao n ca).below (ext_allocB _ _),bbox_new1v w _ mb bo m cb⟩
theorem refHalf_any (nb:Bool) (ao:Option Addr) (n cap:Nat) (x:Nat) (w:World) (h:Bg w nb ao n cap (x:Int)) :
    Calls Tryz.prog 171 #[.agg #[.bool nb,.slice ao n cap],.int .i64 (-1)] w fun r w'=>∃ nr ro k cr,r=.returned (.agg #[.bool nr,.slice ro k cr])∧Bn w' nr ro k cr ((x / 2:Nat):Int)∧Ext w w':=by
  have C:=refShift_down nb ao n cap (x:Int) 1 w h (by omega) (by omega) (by omega)
  rw [show (-((1:Nat):Int)) = -1 from rfl,show (x:Int) / 2^1=((x / 2:Nat):Int) by omega] at C
  exact C.mono fun r w' ⟨nr,ro,k,cr,h1,h2,_,h4⟩=>⟨nr,ro,k,cr,h1,h2,h4⟩
theorem blen_sum {x y p:Nat} (hx:x≤2^p) (hy:y<2^p):blen (x+y)≤p+1:=by
  apply blen_le_of_lt
  rw [Nat.pow_succ];omega
set_option maxRecDepth 100000 in
set_option maxHeartbeats 8000000 in
theorem refSqrt_any (nb:Bool) (ao:Option Addr) (n cap:Nat) (a:Nat) (w:World) (h:Bg w nb ao n cap (a:Int)) (hbl:blen a≤900000) (hn:n≤100000) :
    Calls Tryz.prog 189 #[.agg #[.bool nb,.slice ao n cap]] w fun e w'=>∃ nr ro k cr,∃ s:Nat,e=.returned (.agg #[.bool nr,.slice ro k cr])∧Bn w' nr ro k cr (s:Int)∧s*s≤a∧a<(s+1)*(s+1)∧Ext w w':=by
  go_enter Tryz.func189,Tryz.ntmps189
  go_upto_region 1 with fail
  obtain ⟨W,hW,hB,hx,hr,hz⟩:=boxes1 w nb ao n cap
  rw [←hW]
  clear hW
  have ha:=h.below hB
  generalize hBe:w.heap.size=B at *
  have HBe:=Lib.hid hBe;clear hBe h
  have k0:=hx.c0
  have k1:=hx.c1
  obtain ⟨sg,hsg⟩:∃ sg,sgn3 (a:Int) 0=sg:=⟨_,rfl⟩
  have CS:=refSign_any _ _ _ _ _ W ha
  rw [hsg] at CS
  have CS:=Lib.hid CS
  go_wp2_with fail
  refine CS.out.mono ?_
  rintro e V ⟨rfl,hV⟩
  have ha:=ha.below hV
  have hx:=hx.below hV
  have hr:=hr.below hV
  have hB1:Below B w V:=Below.trans hB (hV.mono (by omega))
  have hzV:B+2≤V.heap.size:=by have:=Below.size hV;omega
  clear k0 k1 CS hV hB hz
  by_cases h0:a=0
  · subst h0
    obtain rfl:sg=0:=by rw [←hsg];rfl
    have q0:=hr.c0
    have q1:=hr.c1
    have q2:=hr.f 0
    have q3:=hr.f 1
    have u1:=hr.stored false none 0 0
    have z0:=u1.c0
    have z1:=u1.c1
    have HB:=Lib.hid (Below.trans hB1 ((only_set2 V (B+1) (.bool false) (.slice none 0 0)).below (Nat.le_succ B)))
    clear hsg u1
    go_wp2
    refine bodyPost_ret (v:=.agg #[.bool false,.slice none 0 0]) (by simp [results,Tryz.results189,go_sem,z0,z1]) rfl ⟨false,none,0,0,0,rfl,⟨rfl,by show Sl _ none 0 0 (limbs 0);rw [limbs_zero];exact Sl.nil _⟩,by omega,by omega,?_⟩
    show Below _ _ _;rw [HBe.out];exact HB.out
  · have hsg0:(sg == 0)=false:=by
      rw [beq_eq_false_iff_ne];intro e
      rw [e] at hsg
      exact h0 (by have:=sgn3_zero hsg;omega)
    obtain ⟨k,hk⟩:∃ k,(blen a+1) / 2=k:=⟨_,rfl⟩
    have hst0:=newt_start h0
    rw [hk] at hst0
    have hkb:k≤450001:=by omega
    have hkI:IntKind.i64.wrap (((blen a:Int)+1).tdiv 2)=(k:Int):=by
      rw [Int.tdiv_eq_ediv_of_nonneg (by omega),show ((blen a:Int)+1) / 2=(k:Int) by omega]
      exact IntWalk.i64_in _ ⟨by omega,by omega⟩
    have C1:=Lib.hid (fun W=>refFromInt_any 1 W (by omega) (by omega))
    have C2:=Lib.hid (fun W (hE:Ext V W)=>show Calls Tryz.prog 175 #[.agg #[.bool nb,.slice ao n cap]] W fun e w'=>e=.returned (.int .i64 ((blen a:Nat):Int))∧Below W.heap.size W w' from refBitLen_any nb ao n cap (a:Int) W (ha.below hE))
    have HC:=Lib.hid (show ∀ wx,Ext V wx→wx.cell? ⟨B,0,none⟩=some (.bool nb)∧wx.cell? ⟨B,1,none⟩=some (.slice ao n cap) from fun wx h=>⟨(hx.below h).c0,(hx.below h).c1⟩)
    have hw1:IntKind.i64.wrap ((blen a:Int)+1)=(blen a:Int)+1:=IntWalk.i64_in _ ⟨by omega,by omega⟩
    have HK:=Lib.hid hk
    clear hsg hk
    have k0:=hx.c0
    have k1:=hx.c1
    have st:Ext V V.drew:=(Below.refl _ _).drew
    go_upto_region 3 with fail
    go_cut [3] from 4 (fun p wx=>∃ xn xo xk xc G,p=.pointer (some ⟨G,0,none⟩)∧Bn wx xn xo xk xc ((2^k:Nat):Int)∧Box wx G xn xo xk xc∧V.heap.size≤G∧Ext V wx)
    case first =>
      go_region_held3 (fun wx=>wx.cell? ⟨B,0,none⟩=some (.bool nb)∧wx.cell? ⟨B,1,none⟩=some (.slice ao n cap))
        (first | exact HC.out _ (by first | assumption | exact ext_allocB2 (by assumption) _ | exact ext_adB _ _))
        (first
          | (go_at_call 149;((with_reducible refine (C1.out _).mono ?_);rintro e w1 ⟨on,oo,ok,oc,rfl,h1,hw1⟩;have ex1:Ext V w1:=Ext.trans (by first | assumption | exact ext_allocB2 (by assumption) _ | exact ext_adB _ _) hw1;(first | (have bz:=bbox_in1d (w:=V) hw1;have bG:V.heap.size≤V.heap.size:=Nat.le_refl _) | skip)))
          | (go_at_call 175;((with_reducible refine (C2.out _ (by first | assumption | exact ext_allocB2 (by assumption) _ | exact ext_adB _ _)).mono ?_);rintro e w2 ⟨rfl,hw2⟩;have ex2:Ext V w2:=Ext.trans (by first | assumption | exact ext_allocB2 (by assumption) _ | exact ext_adB _ _) hw2;(first | (have bz:=bz.below hw2) | (have bz:=bbox_in1 (w:=w1) hw2;have bG:V.heap.size≤w1.heap.size:=Below.size ex1) | skip);(first | (have h1:=h1.below hw2) | (have h1:=(h1.below (ext_allocB _ _)).below hw2))))
          | (go_at_call 171;refine (refShift_up _ _ _ _ 1 k _ (by first | exact bn_bg_of h1 (by decide) | exact bn_bg_of (h1.below (ext_allocB _ _)) (by decide)) (by omega)).mono ?_;rintro e w3 ⟨xn,xo,xk,xc,rfl,h3,-,hw3⟩;have ex3:Ext V w3:=Ext.trans (by first | assumption | exact ext_allocB2 (by assumption) _ | exact ext_adB _ _) hw3;(first | (have bz:=bz.below hw3;have y0:=bz.c0;have y1:=bz.c1;have g0:=bz.f 0;have g1:=bz.f 1;obtain ⟨st1,st2,st3⟩:=bbox_stored (W:=V) bz h3 ex3 bG) | (have bz:=bbox_in1 (w:=w2) hw3;have bG:V.heap.size≤w2.heap.size:=Below.size ex2;have y0:=bz.c0;have y1:=bz.c1;have g0:=bz.f 0;have g1:=bz.f 1;obtain ⟨st1,st2,st3⟩:=bbox_stored (W:=V) bz h3 ex3 bG) | skip)))
      all_goals
        go_wp2
        go_meet
      all_goals
        first
          | exact ⟨xn,xo,xk,xc,_,rfl,by rw [Int.one_mul] at st1;rw [Int.natCast_pow];exact st1,st2,bG,st3⟩
          | exact ⟨xn,xo,xk,xc,_,rfl,by rw [Int.one_mul] at h3;rw [Int.natCast_pow];exact h3.below (ext_allocB _ _),Box.new _ xn xo xk xc,Below.size ex3,ext_allocB2 ex3 _⟩
    case rest =>
      obtain ⟨xn,xo,xk,xc,G,rfl,hxn,hG,hVG,hE⟩:=hcut
      have hBG:¬ B=G:=by omega
      have hBG1:¬ B+1=G:=by omega
      have HPB:Hid (∃ p,k+1≤p∧blen a≤p∧p≤900000):=Lib.hid ⟨max (k+1) (blen a),by omega,by omega,by have:=HK.out;omega⟩
      have hG0:=hG
      have hE0:=hE
      have hn0:=hxn
      clear k0 k1 hsg0 hkI hw1 C1 C2 st hG hE hxn
      go_wp2
      go_loopw [4,5,6] (fun _ _ _ wr=>∃ (x:Nat) (xn:Bool) (xo:Option Addr) (xk xc:Nat),0<x∧x≤2^k∧a<(x+1)*(x+1)∧Box wr G xn xo xk xc∧Bn wr xn xo xk xc (x:Int)∧Ext V wr)
        (fun _ _ _ wr=>numAt wr G)
      case atStart=>exact ⟨2^k,xn,xo,xk,xc,Nat.pow_pos (by omega),Nat.le_refl _,hst0,hG0,hn0,hE0⟩
      case round =>
        clear hG0 hn0 hE0
        obtain ⟨x,xn,xo,xk,xc,hx0,hx1,hx2,hG,hxn,hE⟩:=hrel
        obtain ⟨p,hp1,hp2,hp3⟩:=HPB.out
        have hxp:x≤2^p:=Nat.le_trans hx1 (Nat.pow_le_pow_right (by omega) (by omega))
        have hap:a<2^p:=Nat.lt_of_lt_of_le (blen_lt a) (Nat.pow_le_pow_right (by omega) hp2)
        have hxb:blen x≤p+1:=by
          have:=blen_sum (y:=0) hxp (Nat.pow_pos (by omega))
          rwa [Nat.add_zero] at this
        have hdv:a / x<2^p:=Nat.lt_of_le_of_lt (Nat.div_le_self _ _) hap
        have hsb:=blen_sum hxp hdv
        have hqb:blen (a / x)≤p:=blen_le_of_lt hdv
        obtain ⟨hy0,hy1⟩:=newt_above (a:=a) hx0 (Nat.pos_of_ne_zero h0)
        have hstop:=newt_stop (a:=a) hx0
        have hnum:=numAt_is (w:=wr) (g:=G) (x:=x) ⟨xn,xo,xk,xc,hG,hxn⟩
        have HNUM:=Lib.hid hnum
        have HY0:=Lib.hid hy0
        have HY1:=Lib.hid hy1
        have HSTOP:=Lib.hid hstop
        have HX2:=Lib.hid hx2
        have bx:=hx.below hE
        have brr:=hr.below hE
        have haw:=ha.below hE
        have gx:=bn_bg_of hxn (by rw [Int.natAbs_natCast];omega)
        have CD:=Lib.hid (refDivMod_pos a x nb xn ao xo n xk cap xc wr haw gx (by omega) (by omega))
        clear hy0 hy1 hstop hnum hx2 haw gx
        have k0:=bx.c0
        have k1:=bx.c1
        have l0:=hG.c0
        have l1:=hG.c1
        go_wp2_with fail
        refine CD.out.mono ?_
        rintro e w1 ⟨qn,qo,qk,qc,rn,ro,rk,rc,rfl,hq,-,hw1⟩
        have hE:=Ext.trans hE hw1
        have hG:=hG.below hw1
        have hxn:=hxn.below hw1
        have brr:=brr.below hw1
        clear k0 k1 l0 l1 hw1 CD bx
        go_upto_region 5 with fail
        obtain ⟨W2,hW2,hE2,bq,bq2⟩:=boxes_twoB w1 qn qo qk qc rn ro rk rc
        rw [←hW2]
        clear hW2
        have hE:=Ext.trans hE hE2
        have hG:=hG.below hE2
        have hxn:=hxn.below hE2
        have hq:=hq.below hE2
        have brr:=brr.below hE2
        clear hE2 bq2
        generalize w1.heap.size=D at *
        have l0:=hG.c0
        have l1:=hG.c1
        have k0:=bq.c0
        have k1:=bq.c1
        have CA:=refAdd_any xn qn xo xk xc qo qk qc (x:Int) ((a / x:Nat):Int) W2 (bn_bg_of hxn (by rw [Int.natAbs_natCast];omega)) (bn_bg_of hq (by rw [Int.natAbs_natCast];omega))
        rw [←Int.natCast_add] at CA
        have CA:=Lib.hid CA
        go_wp2_with fail
        refine CA.out.mono ?_
        rintro e w3 ⟨sn,so,sk,sc,rfl,hs,hw3⟩
        have hE:=Ext.trans hE hw3
        have hG:=hG.below hw3
        have hxn:=hxn.below hw3
        have brr:=brr.below hw3
        clear k0 k1 l0 l1 hw3 CA bq hq
        have CH:=Lib.hid (refHalf_any sn so sk sc (x+a / x) w3 (bn_bg_of hs (by rw [Int.natAbs_natCast];omega)))
        go_wp2_with fail
        refine CH.out.mono ?_
        rintro e w4 ⟨yn,yo,yk,yc,rfl,hy,hw4⟩
        have hE:=Ext.trans hE hw4
        have hG:=hG.below hw4
        have hxn:=hxn.below hw4
        have brr:=brr.below hw4
        clear hw4 CH hs
        go_upto_region 6 with fail
        obtain ⟨W5,hW5,hE5,bY,-⟩:=box_new w4 yn yo yk yc
        rw [←hW5]
        clear hW5
        have hE:=Ext.trans hE hE5
        have hG:=hG.below hE5
        have hxn:=hxn.below hE5
        have hy:=hy.below hE5
        have brr:=brr.below hE5
        clear hE5
        generalize w4.heap.size=Y at *
        obtain ⟨y,hyv⟩:∃ y,(x+a / x) / 2=y:=⟨_,rfl⟩
        rw [hyv] at hy
        have hyb:blen y≤p+1:=by
          rw [←hyv]
          exact blen_le_of_lt (Nat.lt_of_le_of_lt (Nat.div_le_self _ _) (Nat.lt_of_lt_of_le (blen_lt _) (Nat.pow_le_pow_right (by omega) hsb)))
        have HYV:=Lib.hid hyv
        have hyl:yk≤100000:=by have h1:=hy.sl.len;rw [Int.natAbs_natCast] at h1;have:=limbs_of_blen (a:=y) (k:=30000) (by omega);omega
        have hxl:xk≤100000:=by have h1:=hxn.sl.len;rw [Int.natAbs_natCast] at h1;have:=limbs_of_blen (a:=x) (k:=30000) (by omega);omega
        have CC:=refCmp_any yn xn yo yk yc xo xk xc (y:Int) (x:Int) W5 (bn_bg_of hy (by rw [Int.natAbs_natCast];omega)) (bn_bg_of hxn (by rw [Int.natAbs_natCast];omega)) hyl hxl
        obtain ⟨cs,hcs⟩:∃ cs,sgn3 (y:Int) (x:Int)=cs:=⟨_,rfl⟩
        rw [hcs] at CC
        have CC:=Lib.hid CC
        have HCS:=Lib.hid hcs
        clear hyv hcs hyb hsb hqb hdv hap hxp hp1 hp2 hp3
        have k0:=bY.c0
        have k1:=bY.c1
        have l0:=hG.c0
        have l1:=hG.c1
        go_wp2_with fail
        refine CC.out.mono ?_
        rintro e w6 ⟨rfl,hw6⟩
        have hE:=Ext.trans hE hw6
        have hG:=hG.below hw6
        have hxn:=hxn.below hw6
        have hy:=hy.below hw6
        have bY:=bY.below hw6
        have brr:=brr.below hw6
        clear k0 k1 l0 l1 hw6 CC
        have k0:=bY.c0
        have k1:=bY.c1
        have l0:=hG.c0
        have l1:=hG.c1
        by_cases hge:y<x
        · have hc:decide (cs≥0)=false:=by rw [←HCS.out];unfold sgn3;rw [if_pos (by omega)];rfl
          have g0:=hG.f 0
          have g1:=hG.f 1
          obtain ⟨s1,s2,s3⟩:=bbox_stored (W:=V) hG hy hE hVG
          have hnum2:=numAt_is (w:=(w6.setCell ⟨G,0,none⟩ (.bool yn)).setCell ⟨G,1,none⟩ (.slice yo yk yc)) (g:=G) (x:=y) ⟨yn,yo,yk,yc,s2,s1⟩
          have HS:=Lib.hid (And.intro s1 (And.intro s2 s3))
          have HN2:=Lib.hid hnum2
          clear s1 s2 s3 hnum2 hE hG hxn hy bY brr
          go_wp2
          go_roundw
          case rel=>exact ⟨y,yn,yo,yk,yc,by rw [←HYV.out];exact HY0.out,by omega,by rw [←HYV.out];exact HY1.out,HS.out.2.1,HS.out.1,HS.out.2.2⟩
          case measure=>rw [HN2.out,HNUM.out];exact hge
        · have hc:decide (cs≥0)=true:=by
            rw [←HCS.out];unfold sgn3;rw [if_neg (by omega)];split <;> rfl
          have hst:=HSTOP.out (by rw [HYV.out];omega)
          have g0:=brr.f 0
          have g1:=brr.f 1
          have g2:=brr.c0
          have g3:=brr.c1
          have hBV:Below B w w6:=Below.trans hB1 (Below.mono hE (by omega))
          have u1:=brr.stored xn xo xk xc
          have z0:=u1.c0
          have z1:=u1.c1
          have HF:=Lib.hid (And.intro (Bn.only_bx' hxn brr (only_set2 w6 (B+1) (.bool xn) (.slice xo xk xc))) (Below.trans hBV ((only_set2 w6 (B+1) (.bool xn) (.slice xo xk xc)).below (Nat.le_succ B))))
          clear u1 hE hG hxn hy bY brr hBV
          go_wp2
          refine bodyPost_ret (v:=.agg #[.bool xn,.slice xo xk xc]) (by simp [results,Tryz.results189,go_sem,z0,z1]) rfl ⟨xn,xo,xk,xc,x,rfl,HF.out.1,hst,HX2.out,?_⟩
          show Below _ _ _;rw [HBe.out];exact HF.out.2
open Go Go.RowKit
def QR (w0:World) (B D G:Nat) (qn:Bool) (qo:Option Addr) (qk qc:Nat) (rn:Bool) (ro:Option Addr) (rk rc:Nat) (Q R:Int) (w:World):Prop :=
  Box w D qn qo qk qc∧Box w G rn ro rk rc∧Bn w qn qo qk qc Q∧Bn w rn ro rk rc R∧Below B w0 w
theorem qr_two {w w0:World} {B D G:Nat} {qn rn an bn:Bool} {qo ro ao bo:Option Addr} {qk qc rk rc ak ac bk bc:Nat} {Q R:Int} (hD:Box w D an ao ak ac) (hG:Box w G bn bo bk bc) (hne:D≠G) (h1:B≤D) (h2:B≤G) (hq:Bn w qn qo qk qc Q) (hr:Bn w rn ro rk rc R) (hb:Below B w0 w) :
    QR w0 B D G qn qo qk qc rn ro rk rc Q R ((((w.setCell ⟨D,0,none⟩ (.bool qn)).setCell ⟨D,1,none⟩ (.slice qo qk qc)).setCell ⟨G,0,none⟩ (.bool rn)).setCell ⟨G,1,none⟩ (.slice ro rk rc)):=by
  have o1:=only_set2 w D (.bool qn) (.slice qo qk qc)
  have u1:=hD.stored qn qo qk qc
  have u2:=hG.only o1 (Ne.symm hne)
  have p1:=Bn.only_bx' hq hD o1
  have q1:=Bn.only_bx' hr hD o1
  have b1:=Below.trans hb (o1.below h1)
  generalize ((w.setCell ⟨D,0,none⟩ (.bool qn)).setCell ⟨D,1,none⟩ (.slice qo qk qc))=v at *
  have o2:=only_set2 v G (.bool rn) (.slice ro rk rc)
  exact ⟨u1.only o2 hne,u2.stored rn ro rk rc,Bn.only_bx' p1 u2 o2,Bn.only_bx' q1 u2 o2,Below.trans b1 (o2.below h2)⟩
theorem qr_two' {w w0:World} {B D G:Nat} {qn rn an bn:Bool} {qo ro ao bo:Option Addr} {qk qc rk rc ak ac bk bc:Nat} {Q R:Int} (hD:Box w D an ao ak ac) (hG:Box w G bn bo bk bc) (hne:D≠G) (h1:B≤D) (h2:B≤G) (hq:Bn w qn qo qk qc Q) (hr:Bn w rn ro rk rc R) (hb:Below B w0 w) :
    QR w0 B D G qn qo qk qc rn ro rk rc Q R ((((w.setCell ⟨G,0,none⟩ (.bool rn)).setCell ⟨G,1,none⟩ (.slice ro rk rc)).setCell ⟨D,0,none⟩ (.bool qn)).setCell ⟨D,1,none⟩ (.slice qo qk qc)):=by
  obtain ⟨a,b,c,d,e⟩:=qr_two hG hD (Ne.symm hne) h2 h1 hr hq hb
  exact ⟨b,a,d,c,e⟩
theorem qr_new {w w0:World} {B D:Nat} {qn rn an:Bool} {qo ro ao:Option Addr} {qk qc rk rc ak ac:Nat} {Q R:Int} (hD:Box w D an ao ak ac) (h1:B≤D) (h2:B≤w.heap.size) (hq:Bn w qn qo qk qc Q) (hr:Bn w rn ro rk rc R) (hb:Below B w0 w) :
    QR w0 B D w.heap.size qn qo qk qc rn ro rk rc Q R (((w.setCell ⟨D,0,none⟩ (.bool qn)).setCell ⟨D,1,none⟩ (.slice qo qk qc)).alloc (.cells #[.bool rn,.slice ro rk rc] 36)):=by
  have o1:=only_set2 w D (.bool qn) (.slice qo qk qc)
  have u1:=hD.stored qn qo qk qc
  have p1:=Bn.only_bx' hq hD o1
  have q1:=Bn.only_bx' hr hD o1
  have b1:=Below.trans hb (o1.below h1)
  have hz:=o1.size
  generalize ((w.setCell ⟨D,0,none⟩ (.bool qn)).setCell ⟨D,1,none⟩ (.slice qo qk qc))=v at *
  have n:=Box.new v rn ro rk rc
  rw [hz] at n
  exact ⟨u1.below (ext_allocB _ _),n,p1.below (ext_allocB _ _),q1.below (ext_allocB _ _),Below.trans b1 (Below.mono (ext_allocB _ _) (by omega))⟩
set_option maxRecDepth 100000 in
set_option maxHeartbeats 8000000 in
theorem refRatio_any (A C:Nat) (nb mb:Bool) (ao bo:Option Addr) (n m ca cb p:Nat) (w:World) (ha:Bg w nb ao n ca (A:Int)) (hb:Bg w mb bo m cb (C:Int)) (hbA:blen A≤140000) (hbC:blen C≤140000) (h0:C≠0) (hp:p≤4096) :
    Calls Tryz.prog 143 #[.agg #[.bool nb,.slice ao n ca],.agg #[.bool mb,.slice bo m cb],.int .i64 (p:Int)] w fun e w'=>∃ qn qo qk qc,e=.returned (.tuple #[.agg #[.bool qn,.slice qo qk qc],.int .i64 (-((p+2+blen C - blen A:Nat):Int)),.bool (decide (A*2^(p+2+blen C - blen A) % C≠0))])∧Bn w' qn qo qk qc ((A*2^(p+2+blen C - blen A) / C:Nat):Int)∧Ext w w':=by
  have hkb:p+2+blen C - blen A≤150000:=by omega
  have HMX:=Lib.hid (show max ((p:Int)+2+(blen C:Int) - (blen A:Int)) 0=((p+2+blen C - blen A:Nat):Int) by omega)
  obtain ⟨k,hk⟩:∃ k,p+2+blen C - blen A=k:=⟨_,rfl⟩
  rw [hk] at hkb HMX ⊢
  have hM:blen (A*2^k)≤300000:=by
    have h1:=blen_lt A
    have h2:A*2^k<2^(blen A+k):=by rw [Nat.pow_add];exact Nat.mul_lt_mul_of_pos_right h1 (Nat.pow_pos (by omega))
    exact Nat.le_trans (blen_le_of_lt h2) (by omega)
  have C1:=Lib.hid (fun W (h:Bg W nb ao n ca (A:Int))=>(show Calls Tryz.prog 171 #[.agg #[.bool nb,.slice ao n ca],.int .i64 (k:Int)] W fun e w'=>∃ nr ro l cr,e=.returned (.agg #[.bool nr,.slice ro l cr])∧Bn w' nr ro l cr ((A*2^k:Nat):Int)∧Ext W w' from by
    rw [Int.natCast_mul,Int.natCast_pow]
    exact (refShift_up nb ao n ca (A:Int) k W h (by omega)).mono fun r w' ⟨nr,ro,l,cr,h1,h2,_,h4⟩=>⟨nr,ro,l,cr,h1,h2,h4⟩))
  have CA:=Lib.hid (fun W (h:Bg W nb ao n ca (A:Int))=>show Calls Tryz.prog 175 #[.agg #[.bool nb,.slice ao n ca]] W fun e w'=>e=.returned (.int .i64 ((blen A:Nat):Int))∧Ext W w' from refBitLen_any nb ao n ca (A:Int) W h)
  have CC:=Lib.hid (fun W (h:Bg W mb bo m cb (C:Int))=>show Calls Tryz.prog 175 #[.agg #[.bool mb,.slice bo m cb]] W fun e w'=>e=.returned (.int .i64 ((blen C:Nat):Int))∧Ext W w' from refBitLen_any mb bo m cb (C:Int) W h)
  have HM:=Lib.hid (fun (W:World) (sn:Bool) (so:Option Addr) (sl sc:Nat) (h:Bn W sn so sl sc ((A*2^k:Nat):Int))=>show sl≤100000000 from Nat.le_trans (bn_len h (by rw [Int.natAbs_natCast];omega)) (by omega))
  have hbM:=Lib.hid hM
  clear hk hM
  generalize A*2^k=M at *
  have H0:=Lib.hid h0;clear h0
  go_enter Tryz.func143,Tryz.ntmps143
  go_upto_region 1 with fail
  obtain ⟨W,hW,hB,hx,hy,hD,hz⟩:=boxes2 w nb ao n ca mb bo m cb
  rw [←hW]
  clear hW
  have ha:=ha.below hB
  have hb:=hb.below hB
  generalize hBe:w.heap.size=B at *
  have HBe:=Lib.hid hBe;clear hBe
  have HC:=Lib.hid (show ∀ wx,Ext W wx→(wx.cell? ⟨B,0,none⟩=some (.bool nb)∧wx.cell? ⟨B,1,none⟩=some (.slice ao n ca))∧(wx.cell? ⟨B+1,0,none⟩=some (.bool mb)∧wx.cell? ⟨B+1,1,none⟩=some (.slice bo m cb)) from fun wx h=>⟨⟨(hx.below h).c0,(hx.below h).c1⟩,(hy.below h).c0,(hy.below h).c1⟩)
  have hn0:=ha.small
  have hm0:=hb.small
  have st:Ext W W.drew:=(Below.refl _ _).drew
  obtain ⟨⟨k0,k1⟩,l0,l1⟩:=HC.out W (Ext.refl W)
  have CA:=Lib.hid (fun W' (hE:Ext W W')=>CA.out W' (ha.below hE))
  have CC:=Lib.hid (fun W' (hE:Ext W W')=>CC.out W' (hb.below hE))
  have hw1:IntKind.i64.wrap ((p:Int)+2)=(p:Int)+2:=IntWalk.i64_in _ ⟨by omega,by omega⟩
  have hw2:IntKind.i64.wrap ((p:Int)+2+(blen C:Int))=(p:Int)+2+(blen C:Int):=IntWalk.i64_in _ ⟨by omega,by omega⟩
  have hw3:IntKind.i64.wrap ((p:Int)+2+(blen C:Int) - (blen A:Int))=(p:Int)+2+(blen C:Int) - (blen A:Int):=IntWalk.i64_in _ ⟨by omega,by omega⟩
  go_cut [9] from 10 (fun s wx=>s=.int .i64 (k:Int)∧Ext W wx)
  case first =>
    go_region_held3 (fun wx=>(wx.cell? ⟨B,0,none⟩=some (.bool nb)∧wx.cell? ⟨B,1,none⟩=some (.slice ao n ca))∧(wx.cell? ⟨B+1,0,none⟩=some (.bool mb)∧wx.cell? ⟨B+1,1,none⟩=some (.slice bo m cb)))
      (first | exact HC.out _ (by first | assumption | exact Ext.refl _ | exact ext_allocB2 (by assumption) _ | exact ext_adB _ _))
      (first
        | (go_at_call 175;with_reducible refine (CC.out _ (by first | assumption | exact Ext.refl _ | exact ext_allocB2 (by assumption) _ | exact ext_adB _ _)).mono ?_;rintro e w1 ⟨rfl,hv1⟩;have ex1:Ext W w1:=Ext.trans (by first | assumption | exact Ext.refl _ | exact ext_allocB2 (by assumption) _ | exact ext_adB _ _) hv1)
        | (go_at_call 175;with_reducible refine (CA.out _ (by first | assumption | exact Ext.refl _ | exact ext_allocB2 (by assumption) _ | exact ext_adB _ _)).mono ?_;rintro e w2 ⟨rfl,hv2⟩;have ex2:Ext W w2:=Ext.trans (by first | assumption | exact Ext.refl _ | exact ext_allocB2 (by assumption) _ | exact ext_adB _ _) hv2))
    all_goals
      go_wp2
      go_meet
    all_goals
      exact ⟨by rw [←HMX.out],ex2⟩
  case rest =>
    obtain ⟨rfl,hE⟩:=hcut
    obtain ⟨V,hV⟩:∃ V,V=wc:=⟨wc,rfl⟩
    subst hV
    have ha:=ha.below hE
    have hb:=hb.below hE
    have hx:=hx.below hE
    have hy:=hy.below hE
    have hD:=hD.below hE
    have hBV:Below B w V:=Below.trans hB (Below.mono hE (by omega))
    have hzV:B+3≤V.heap.size:=by have:=Below.size hE;omega
    clear hw1 hw2 hw3 k0 k1 l0 l1 st hE hB hz HC HMX CA CC
    have HC:=Lib.hid (show ∀ wx,Ext V wx→(wx.cell? ⟨B,0,none⟩=some (.bool nb)∧wx.cell? ⟨B,1,none⟩=some (.slice ao n ca))∧(wx.cell? ⟨B+1,0,none⟩=some (.bool mb)∧wx.cell? ⟨B+1,1,none⟩=some (.slice bo m cb)) from fun wx h=>⟨⟨(hx.below h).c0,(hx.below h).c1⟩,(hy.below h).c0,(hy.below h).c1⟩)
    have st:Ext V V.drew:=(Below.refl _ _).drew
    obtain ⟨⟨k0,k1⟩,l0,l1⟩:=HC.out V (Ext.refl V)
    have C1:=Lib.hid (fun W' (hE:Ext V W')=>C1.out W' (ha.below hE))
    have hD0:=hD.lt
    go_upto_region 2 with fail
    go_cut [10] from 20 (fun s wx=>∃ G qn qo qk qc rn ro rk rc,s=.pointer (some ⟨G,0,none⟩)∧V.heap.size≤G∧QR w B (B+1+1) G qn qo qk qc rn ro rk rc ((M / C:Nat):Int) ((M % C:Nat):Int) wx)
    case first =>
      go_region_held3 (fun wx=>(wx.cell? ⟨B,0,none⟩=some (.bool nb)∧wx.cell? ⟨B,1,none⟩=some (.slice ao n ca))∧(wx.cell? ⟨B+1,0,none⟩=some (.bool mb)∧wx.cell? ⟨B+1,1,none⟩=some (.slice bo m cb)))
        ((refine ⟨?_,?_⟩;((repeat (first | with_reducible refine bcells_drew ?_ | with_reducible refine bcells_alloc ?_ | with_reducible refine bcells_stored (by omega) ?_));exact (HC.out _ (by first | assumption | exact Ext.refl _ | exact ext_allocB2 (by assumption) _ | exact ext_adB _ _)).1);((repeat (first | with_reducible refine bcells_drew ?_ | with_reducible refine bcells_alloc ?_ | with_reducible refine bcells_stored (by omega) ?_));exact (HC.out _ (by first | assumption | exact Ext.refl _ | exact ext_allocB2 (by assumption) _ | exact ext_adB _ _)).2)))
        (first
          | (go_at_call 171;with_reducible refine (C1.out _ (by first | assumption | exact Ext.refl _ | exact ext_allocB2 (by assumption) _ | exact ext_adB _ _)).mono ?_;rintro e w1 ⟨sn,so,sl,sc,rfl,h1,hv1⟩;have ex1:Ext V w1:=Ext.trans (by first | assumption | exact Ext.refl _ | exact ext_allocB2 (by assumption) _ | exact ext_adB _ _) hv1;(first | (have bz:=bbox_in1d (w:=V) hv1;have bG:V.heap.size≤V.heap.size:=Nat.le_refl _) | (have bz:=bbox_in1 (w:=V) hv1;have bG:V.heap.size≤V.heap.size:=Nat.le_refl _) | skip))
          | (go_at_call 184;have ep:Ext V w1:=ex1;refine (refDivMod_pos M C sn mb so bo sl m sc cb _ (by first | exact bn_bg_of h1 (by rw [Int.natAbs_natCast];have:=hbM.out;omega) | exact bn_bg_of (h1.below (ext_allocB _ _)) (by rw [Int.natAbs_natCast];have:=hbM.out;omega)) (hb.below (by first | assumption | exact Ext.refl _ | exact ext_allocB2 (by assumption) _ | exact ext_adB _ _)) (HM.out _ _ _ _ _ h1) H0.out).mono ?_;rintro e w2 ⟨qn,qo,qk,qc,rn,ro,rk,rc,rfl,hq,hr,hv2⟩;have ex2:Ext V w2:=Ext.trans (by first | assumption | exact Ext.refl _ | exact ext_allocB2 (by assumption) _ | exact ext_adB _ _) hv2;(first | (have bz:=bz.below hv2;have zl:=bz.lt;have z0:=bz.c0;have z1:=bz.c1;have z2:=bz.f 0;have z3:=bz.f 1) | (have bz:=bbox_in1 (w:=w1) hv2;have bG:V.heap.size≤w1.heap.size:=Below.size ex1;have zl:=bz.lt;have z0:=bz.c0;have z1:=bz.c1;have z2:=bz.f 0;have z3:=bz.f 1) | skip);have fD:=hD.below ex2;have dl:=fD.lt;have d0:=fD.c0;have d1:=fD.c1;have d2:=fD.f 0;have d3:=fD.f 1;have hB2:Below B w w2:=Below.trans hBV (Below.mono ex2 (by omega));have sz2:V.heap.size≤w2.heap.size:=Below.size ex2))
      all_goals
        clear d0 d1 d2 d3
        try clear z0 z1 z2 z3
        go_wp2
        go_meet
      all_goals
        refine ⟨_,qn,qo,qk,qc,rn,ro,rk,rc,rfl,?_⟩
        first
          | exact ⟨bG,qr_two fD bz (by omega) (by omega) (by omega) hq hr hB2⟩
          | exact ⟨bG,qr_two' fD bz (by omega) (by omega) (by omega) hq hr hB2⟩
          | exact ⟨sz2,qr_new fD (by omega) (by omega) hq hr hB2⟩
    case rest =>
      obtain ⟨G,qn,qo,qk,qc,rn,ro,rk,rc,rfl,hG,hD2,hG2,hq,hr,hB2⟩:=hcut
      obtain ⟨X,hX⟩:∃ X,X=wc:=⟨wc,rfl⟩
      subst hX
      have hDG:B+1+1≠G:=by omega
      have hDG2:¬ B+1+1=G:=hDG
      have hDG3:¬ G=B+1+1:=Ne.symm hDG
      have hrl:rk≤1000000000:=by
        have h2:M % C≤C:=Nat.le_of_lt (Nat.mod_lt _ (Nat.pos_of_ne_zero H0.out))
        have h3:blen (M % C)≤1000000:=Nat.le_trans (blen_le_of_lt (Nat.lt_of_le_of_lt h2 (blen_lt C))) (by omega)
        exact Nat.le_trans (bn_len hr (by rw [Int.natAbs_natCast];exact h3)) (by omega)
      obtain ⟨sg,hsg⟩:∃ sg,sgn3 ((M % C:Nat):Int) 0=sg:=⟨_,rfl⟩
      have hsb:(sg != 0)=decide (M % C≠0):=by
        rw [show (sg != 0)=decide (sg≠0) from by by_cases h:sg=0 <;> simp [h],←hsg]
        unfold sgn3
        apply decide_eq_decide.2
        rw [if_neg (by omega)]
        split <;> omega
      have CS:=Lib.hid (fun W' (hE:Ext X W')=>show Calls Tryz.prog 142 #[.agg #[.bool rn,.slice ro rk rc]] W' fun e w'=>e=.returned (.int .i64 sg)∧Ext W' w' from hsg▸refSign_any _ _ _ _ _ W' ((hr.bg hrl).below hE))
      have HSB:=Lib.hid hsb
      have HC:=Lib.hid (show ∀ wx,Ext X wx→(wx.cell? ⟨B+1+1,0,none⟩=some (.bool qn)∧wx.cell? ⟨B+1+1,1,none⟩=some (.slice qo qk qc))∧(wx.cell? ⟨G,0,none⟩=some (.bool rn)∧wx.cell? ⟨G,1,none⟩=some (.slice ro rk rc)) from fun wx h=>⟨⟨(hD2.below h).c0,(hD2.below h).c1⟩,(hG2.below h).c0,(hG2.below h).c1⟩)
      have HS:=Lib.hid (show ∀ wx,Ext X wx→(fun wx=>(wx.cell? ⟨B+1+1,0,none⟩=some (.bool qn)∧wx.cell? ⟨B+1+1,1,none⟩=some (.slice qo qk qc))∧(wx.cell? ⟨G,0,none⟩=some (.bool rn)∧wx.cell? ⟨G,1,none⟩=some (.slice ro rk rc))) ((wx.setCell ⟨B+1+1,0,none⟩ (.bool qn)).setCell ⟨B+1+1,1,none⟩ (.slice qo qk qc)) from fun wx h=>⟨⟨((hD2.below h).stored qn qo qk qc).c0,((hD2.below h).stored qn qo qk qc).c1⟩,bcells_stored hDG ⟨(hG2.below h).c0,(hG2.below h).c1⟩⟩)
      clear hsg hsb hr hG2
      have stx:Ext X X.drew:=(Below.refl _ _).drew
      obtain ⟨⟨k0,k1⟩,l0,l1⟩:=HC.out X (Ext.refl X)
      have hwk:IntKind.i64.wrap (-(k:Int)) = -(k:Int):=IntWalk.i64_in _ ⟨by omega,by omega⟩
      go_upto_region 3 with fail
      go_region_held3 (fun wx=>(wx.cell? ⟨B+1+1,0,none⟩=some (.bool qn)∧wx.cell? ⟨B+1+1,1,none⟩=some (.slice qo qk qc))∧(wx.cell? ⟨G,0,none⟩=some (.bool rn)∧wx.cell? ⟨G,1,none⟩=some (.slice ro rk rc)))
        (first | exact HC.out _ (by first | assumption | exact Ext.refl _ | exact ext_allocB2 (by assumption) _ | exact ext_adB _ _) | exact HS.out _ (by first | assumption | exact Ext.refl _ | exact ext_allocB2 (by assumption) _ | exact ext_adB _ _))
        (first | (go_at_call 142;refine (CS.out _ stx).mono ?_;rintro e w3 ⟨rfl,hv3⟩;have ex3:Ext X w3:=Ext.trans stx hv3;have fD:=hD2.below ex3;have d0:=fD.c0;have d1:=fD.c1;have d2:=fD.f 0;have d3:=fD.f 1))
      all_goals
        have hst:=fD.stored qn qo qk qc
        have z0:=hst.c0
        have z1:=hst.c1
        have HRES:=Lib.hid (And.intro (Bn.only_bx' (hq.below ex3) fD (only_set2 w3 (B+1+1) (.bool qn) (.slice qo qk qc))) (Below.trans (Below.trans hB2 (Below.mono ex3 (by have:=hD2.lt;omega))) ((only_set2 w3 (B+1+1) (.bool qn) (.slice qo qk qc)).below (show B≤B+1+1 by omega))))
        clear hst d0 d1 d2 d3
        go_wp2
        refine bodyPost_ret (v:=.tuple #[.agg #[.bool qn,.slice qo qk qc],.int .i64 (-(k:Int)),.bool (sg != 0)]) (by simp [results,Tryz.results143,go_sem,z0,z1]) rfl ⟨qn,qo,qk,qc,by rw [HSB.out],HRES.out.1,?_⟩
        show Below _ _ _
        rw [HBe.out]
        exact HRES.out.2
open Go Go.RowKit
theorem bn_ext {w w':World} {nb:Bool} {ao:Option Addr} {n ca:Nat} {x:Int} (h:Bn w nb ao n ca x) (hE:Ext w w'):Bn w' nb ao n ca x:=h.below hE
theorem ext_over {w w':World} {o:Obj} (hE:Ext (w.alloc o) w'):Ext w w':=Ext.trans (ext_allocB _ _) hE
end Go.Proofs.YtkomhemjodbkpaaGreatDoor
