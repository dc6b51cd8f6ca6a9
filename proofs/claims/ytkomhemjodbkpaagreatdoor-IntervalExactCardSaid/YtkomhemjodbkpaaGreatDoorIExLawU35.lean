import Derived.Test.YtkomhemjodbkpaaGreatDoorIExLawU34
namespace Go.Proofs.YtkomhemjodbkpaaGreatDoor
open Go Go.RowKit
noncomputable def refHull_r3_code:Code:=((Tryz.f24.body.bind (regOf 3)).getD .skip)
set_option maxRecDepth 100000 in
set_option maxHeartbeats 20000000 in
theorem refHull_r3 {f0 f1 f4 f5 f6 f7 f8 f9 f10 f11 f12 f13 f14 f15 f16 f17 f18 f19 f20 f21 f22 f23 f24 f25 f26 f27 f28 f29 f30 f31 f32 f33 f34:Value} {J K':Act→World→Prop} {Q':Exit→Act→World→Prop} {a b c d B:Nat} {V:World} {LI HI:Int} {LD HD:Dy}
    (hJ:∀ (a':Act) (wx:World),(∃ u5 u6 u16 u17 u18 u19 u20 u21 u22 u23 u24 u25 u26 u27 u28 u29 u30 u31 u32 u33 u34:Value,(∃ h0 h1 v0 v1,u5=.pointer (some ⟨h0,0,none⟩)∧u6=.pointer (some ⟨h1,0,none⟩)∧(NBv wx h0 v0∧NumV wx v0 LI LD)∧(NBv wx h1 v1∧NumV wx v1 HI HD)∧Ext V wx)∧a'=⟨#[f0,f1,.pointer (some ⟨B,0,none⟩),.pointer (some ⟨B+1,0,none⟩),f4,u5,u6,f7,f8,f9,f10,f11,f12,f13,f14,f15,u16,u17,u18,u19,u20,u21,u22,u23,u24,u25,u26,u27,u28,u29,u30,u31,u32,u33,u34],[]⟩)→J a' wx) (hK:∀ (a':Act) (wx:World),Met J a' wx→K' a' wx)
    (NA:Hid (∀ w,Table w→Calls Tryz.prog 48 #[.int .u64 (a:Int)] w fun e w'=>∃ v,e=.returned v∧NumV w' v (numI a) (numD a)∧Ext w w')) (NB:Hid (∀ w,Table w→Calls Tryz.prog 48 #[.int .u64 (b:Int)] w fun e w'=>∃ v,e=.returned v∧NumV w' v (numI b) (numD b)∧Ext w w')) (NC:Hid (∀ w,Table w→Calls Tryz.prog 48 #[.int .u64 (c:Int)] w fun e w'=>∃ v,e=.returned v∧NumV w' v (numI c) (numD c)∧Ext w w')) (ND:Hid (∀ w,Table w→Calls Tryz.prog 48 #[.int .u64 (d:Int)] w fun e w'=>∃ v,e=.returned v∧NumV w' v (numI d) (numD d)∧Ext w w')) (HTV:Hid (∀ wx,Ext V wx→Table wx)) (HC0:Hid (∀ wx,Ext V wx→wx.cell? ⟨B,0,none⟩=some (.int .u64 (a:Int)))) (HC1:Hid (∀ wx,Ext V wx→wx.cell? ⟨B,1,none⟩=some (.int .u64 (b:Int)))) (HC2:Hid (∀ wx,Ext V wx→wx.cell? ⟨(B+1),0,none⟩=some (.int .u64 (c:Int)))) (HC3:Hid (∀ wx,Ext V wx→wx.cell? ⟨(B+1),1,none⟩=some (.int .u64 (d:Int)))) (SP:Hid (∀ u v x y w,NumV w u (numI a) (numD a)→NumV w v (numI b) (numD b)→NumV w x (numI c) (numD c)→NumV w y (numI d) (numD d)→Table w→Calls Tryz.prog 51 #[u,v,x,y] w fun e w'=>∃ lo hi,e=.returned (.tuple #[lo,hi])∧NumV w' lo LI LD∧NumV w' hi HI HD∧Ext w w')) :
    Code.wp Tryz.prog refHull_r3_code (Exit.then K' Q') ⟨#[f0,f1,.pointer (some ⟨B,0,none⟩),.pointer (some ⟨B+1,0,none⟩),f4,f5,f6,f7,f8,f9,f10,f11,f12,f13,f14,f15,f16,f17,f18,f19,f20,f21,f22,f23,f24,f25,f26,f27,f28,f29,f30,f31,f32,f33,f34],[]⟩ V:=by
  conv=>arg 2;whnf
  refine wp_region_any (by kernel_rfl) ?_
  refine region_vars (V:=V) (fr:=fun t:Nat→Value=>(⟨#[f0,f1,.pointer (some ⟨B,0,none⟩),.pointer (some ⟨B+1,0,none⟩),f4,(t 5),(t 6),f7,f8,f9,f10,f11,f12,f13,f14,f15,(t 16),(t 17),(t 18),(t 19),(t 20),(t 21),(t 22),(t 23),(t 24),(t 25),(t 26),(t 27),(t 28),(t 29),(t 30),(t 31),f32,f33,f34],[]⟩:Act)) (m:=16) (n:=2) (dst:=fun j=>#[17,18,19,20,21,22,23,24,25,26,27,28,29,16,30,31].getD j 0) (vs:=fun k=>#[5,6].getD k 0) (src:=fun k=>#[30,31].getD k 0)
    (F:=fun j=>match j with | 0=>(fun v _=>v=.pointer (some ⟨B,0,none⟩)) | 1=>(fun v _=>v=.int .u64 (a:Int)) | 2=>(fun v w=>NumV w v (numI a) (numD a)) | 3=>(fun v _=>v=.pointer (some ⟨B,1,none⟩)) | 4=>(fun v _=>v=.int .u64 (b:Int)) | 5=>(fun v w=>NumV w v (numI b) (numD b)) | 6=>(fun v _=>v=.pointer (some ⟨(B+1),0,none⟩)) | 7=>(fun v _=>v=.int .u64 (c:Int)) | 8=>(fun v w=>NumV w v (numI c) (numD c)) | 9=>(fun v _=>v=.pointer (some ⟨(B+1),1,none⟩)) | 10=>(fun v _=>v=.int .u64 (d:Int)) | 11=>(fun v w=>NumV w v (numI d) (numD d)) | 12=>(fun v w=>∃ lo hi,v=.tuple #[lo,hi]∧NumV w lo LI LD∧NumV w hi HI HD) | 13=>(fun v w=>∃ lo hi,v=.tuple #[lo,hi]∧NumV w lo LI LD∧NumV w hi HI HD) | 14=>(fun v w=>NumV w v LI LD) | 15=>(fun v w=>NumV w v HI HD) | _=>fun _ _=>True) ?_ (fun s=>#[f0,f1,.pointer (some ⟨B,0,none⟩),.pointer (some ⟨B+1,0,none⟩),f4,f5,f6,f7,f8,f9,f10,f11,f12,f13,f14,f15,f16,f17,f18,f19,f20,f21,f22,f23,f24,f25,f26,f27,f28,f29,f30,f31,f32,f33,f34].getD s undef) (World.drew _) ((Below.refl _ _).drew) ?_
  · refine VRegion.mk (by kernel_rfl) (by kernel_rfl) (by decide) (by decide) (by decide) ?sd ?sa ?stays ?step ?alloc ?store ?isnum
    case sd =>
      intro k hk
      match k,hk with
      | 0,_=>exact ⟨14,by decide,rfl,by kernel_rfl⟩
      | 1,_=>exact ⟨15,by decide,rfl,by kernel_rfl⟩
    case sa =>
      intro k hk
      match k,hk with
      | 0,_=>show (_:Bool)=true;kernel_rfl
      | 1,_=>show (_:Bool)=true;kernel_rfl
    case stays =>
      intro j hj
      match j,hj with
      | 0,_=>exact Stays.eq _
      | 1,_=>exact Stays.eq _
      | 2,_=>exact Stays.num _ _
      | 3,_=>exact Stays.eq _
      | 4,_=>exact Stays.eq _
      | 5,_=>exact Stays.num _ _
      | 6,_=>exact Stays.eq _
      | 7,_=>exact Stays.eq _
      | 8,_=>exact Stays.num _ _
      | 9,_=>exact Stays.eq _
      | 10,_=>exact Stays.eq _
      | 11,_=>exact Stays.num _ _
      | 12,_=>exact Stays.pair _ _ _ _
      | 13,_=>exact Stays.pair _ _ _ _
      | 14,_=>exact Stays.num _ _
      | 15,_=>exact Stays.num _ _
      | k+16,h=>exact absurd h (by omega)
    case step =>
      intro j hj t w hE hd K hK
      match j,hj with
      | 0,_ =>
        refine wpOp_step rfl (fun K' hK'=>?_)
        go_simp
        exact hK' _ _ (hK (.pointer (some ⟨B,0,none⟩)) w (Ext.refl _) rfl)
      | 1,_ =>
        have d1:t 17=.pointer (some ⟨B,0,none⟩):=hd 0 (by decide) (by kernel_rfl)
        have c1:=HC0.out w hE
        rw [upd_self d1] at hK ⊢
        have e1:upd t 17 (.pointer (some ⟨B,0,none⟩)) 17=.pointer (some ⟨B,0,none⟩):=rfl
        clear hd d1
        refine wpOp_step rfl (fun K' hK'=>?_)
        go_simp
        exact hK' _ _ (hK (.int .u64 (a:Int)) w (Ext.refl _) rfl)
      | 2,_ =>
        have d1:t 18=.int .u64 (a:Int):=hd 1 (by decide) (by kernel_rfl)
        have hT:=HTV.out w hE
        rw [upd_self d1] at hK ⊢
        have e1:upd t 18 (.int .u64 (a:Int)) 18=.int .u64 (a:Int):=rfl
        clear hd d1
        refine wpOp_step rfl (fun K' hK'=>?_)
        go_simp
        go_wp2_with (go_at_call 48;(with_reducible refine (NA.out _ hT).mono ?_);rintro r wn ⟨v,rfl,hv,hE'⟩)
        first | exact hK v wn hE' hv | exact hK' _ _ (hK v wn hE' hv)
      | 3,_ =>
        refine wpOp_step rfl (fun K' hK'=>?_)
        go_simp
        exact hK' _ _ (hK (.pointer (some ⟨B,1,none⟩)) w (Ext.refl _) rfl)
      | 4,_ =>
        have d1:t 20=.pointer (some ⟨B,1,none⟩):=hd 3 (by decide) (by kernel_rfl)
        have c1:=HC1.out w hE
        rw [upd_self d1] at hK ⊢
        have e1:upd t 20 (.pointer (some ⟨B,1,none⟩)) 20=.pointer (some ⟨B,1,none⟩):=rfl
        clear hd d1
        refine wpOp_step rfl (fun K' hK'=>?_)
        go_simp
        exact hK' _ _ (hK (.int .u64 (b:Int)) w (Ext.refl _) rfl)
      | 5,_ =>
        have d1:t 21=.int .u64 (b:Int):=hd 4 (by decide) (by kernel_rfl)
        have hT:=HTV.out w hE
        rw [upd_self d1] at hK ⊢
        have e1:upd t 21 (.int .u64 (b:Int)) 21=.int .u64 (b:Int):=rfl
        clear hd d1
        refine wpOp_step rfl (fun K' hK'=>?_)
        go_simp
        go_wp2_with (go_at_call 48;(with_reducible refine (NB.out _ hT).mono ?_);rintro r wn ⟨v,rfl,hv,hE'⟩)
        first | exact hK v wn hE' hv | exact hK' _ _ (hK v wn hE' hv)
      | 6,_ =>
        refine wpOp_step rfl (fun K' hK'=>?_)
        go_simp
        exact hK' _ _ (hK (.pointer (some ⟨(B+1),0,none⟩)) w (Ext.refl _) rfl)
      | 7,_ =>
        have d1:t 23=.pointer (some ⟨(B+1),0,none⟩):=hd 6 (by decide) (by kernel_rfl)
        have c1:=HC2.out w hE
        rw [upd_self d1] at hK ⊢
        have e1:upd t 23 (.pointer (some ⟨(B+1),0,none⟩)) 23=.pointer (some ⟨(B+1),0,none⟩):=rfl
        clear hd d1
        refine wpOp_step rfl (fun K' hK'=>?_)
        go_simp
        exact hK' _ _ (hK (.int .u64 (c:Int)) w (Ext.refl _) rfl)
      | 8,_ =>
        have d1:t 24=.int .u64 (c:Int):=hd 7 (by decide) (by kernel_rfl)
        have hT:=HTV.out w hE
        rw [upd_self d1] at hK ⊢
        have e1:upd t 24 (.int .u64 (c:Int)) 24=.int .u64 (c:Int):=rfl
        clear hd d1
        refine wpOp_step rfl (fun K' hK'=>?_)
        go_simp
        go_wp2_with (go_at_call 48;(with_reducible refine (NC.out _ hT).mono ?_);rintro r wn ⟨v,rfl,hv,hE'⟩)
        first | exact hK v wn hE' hv | exact hK' _ _ (hK v wn hE' hv)
      | 9,_ =>
        refine wpOp_step rfl (fun K' hK'=>?_)
        go_simp
        exact hK' _ _ (hK (.pointer (some ⟨(B+1),1,none⟩)) w (Ext.refl _) rfl)
      | 10,_ =>
        have d1:t 26=.pointer (some ⟨(B+1),1,none⟩):=hd 9 (by decide) (by kernel_rfl)
        have c1:=HC3.out w hE
        rw [upd_self d1] at hK ⊢
        have e1:upd t 26 (.pointer (some ⟨(B+1),1,none⟩)) 26=.pointer (some ⟨(B+1),1,none⟩):=rfl
        clear hd d1
        refine wpOp_step rfl (fun K' hK'=>?_)
        go_simp
        exact hK' _ _ (hK (.int .u64 (d:Int)) w (Ext.refl _) rfl)
      | 11,_ =>
        have d1:t 27=.int .u64 (d:Int):=hd 10 (by decide) (by kernel_rfl)
        have hT:=HTV.out w hE
        rw [upd_self d1] at hK ⊢
        have e1:upd t 27 (.int .u64 (d:Int)) 27=.int .u64 (d:Int):=rfl
        clear hd d1
        refine wpOp_step rfl (fun K' hK'=>?_)
        go_simp
        go_wp2_with (go_at_call 48;(with_reducible refine (ND.out _ hT).mono ?_);rintro r wn ⟨v,rfl,hv,hE'⟩)
        first | exact hK v wn hE' hv | exact hK' _ _ (hK v wn hE' hv)
      | 12,_ =>
        have d0:NumV w (t 19) (numI a) (numD a):=hd 2 (by decide) (by kernel_rfl)
        have d1:NumV w (t 22) (numI b) (numD b):=hd 5 (by decide) (by kernel_rfl)
        have d2:NumV w (t 25) (numI c) (numD c):=hd 8 (by decide) (by kernel_rfl)
        have d3:NumV w (t 28) (numI d) (numD d):=hd 11 (by decide) (by kernel_rfl)
        have hT:=HTV.out w hE
        clear hd
        refine wpOp_step rfl (fun K' hK'=>?_)
        go_simp
        go_wp2_with (go_at_call 51;(refine (SP.out _ _ _ _ _ d0 d1 d2 d3 hT).mono ?_);rintro r wn ⟨lo,hi,rfl,hl,hh,hE'⟩)
        first | exact hK _ wn hE' ⟨lo,hi,rfl,hl,hh⟩ | exact hK' _ _ (hK _ wn hE' ⟨lo,hi,rfl,hl,hh⟩)
      | 13,_ =>
        have d1:∃ lo hi,t 29=.tuple #[lo,hi]∧NumV w lo LI LD∧NumV w hi HI HD:=hd 12 (by decide) (by kernel_rfl)
        obtain ⟨lo,hi,e,n1,n2⟩:=d1
        clear hd
        rw [upd_self e] at hK ⊢
        have e1:upd t 29 (.tuple #[lo,hi]) 29=.tuple #[lo,hi]:=rfl
        clear e
        refine wpOp_step rfl (fun K' hK'=>?_)
        go_simp
        exact hK' _ _ (hK (.tuple #[lo,hi]) w (Ext.refl _) ⟨lo,hi,rfl,n1,n2⟩)
      | 14,_ =>
        have d1:∃ lo hi,t 16=.tuple #[lo,hi]∧NumV w lo LI LD∧NumV w hi HI HD:=hd 13 (by decide) (by kernel_rfl)
        obtain ⟨lo,hi,e,n1,n2⟩:=d1
        clear hd
        rw [upd_self e] at hK ⊢
        have e1:upd t 16 (.tuple #[lo,hi]) 16=.tuple #[lo,hi]:=rfl
        clear e
        refine wpOp_step rfl (fun K' hK'=>?_)
        go_simp
        exact hK' _ _ (hK lo w (Ext.refl _) n1)
      | 15,_ =>
        have d1:∃ lo hi,t 16=.tuple #[lo,hi]∧NumV w lo LI LD∧NumV w hi HI HD:=hd 13 (by decide) (by kernel_rfl)
        obtain ⟨lo,hi,e,n1,n2⟩:=d1
        clear hd
        rw [upd_self e] at hK ⊢
        have e1:upd t 16 (.tuple #[lo,hi]) 16=.tuple #[lo,hi]:=rfl
        clear e
        refine wpOp_step rfl (fun K' hK'=>?_)
        go_simp
        exact hK' _ _ (hK hi w (Ext.refl _) n2)
      | k+16,h=>exact absurd h (by omega)
    case alloc =>
      intro k hk t w K hK
      match k,hk with
      | 0,_ =>
        refine wpOp_step rfl (fun K' hK'=>?_)
        go_simp
        exact hK' _ _ hK
      | 1,_ =>
        refine wpOp_step rfl (fun K' hK'=>?_)
        go_simp
        exact hK' _ _ hK
    case store =>
      intro k hk t w K g i bb nb ao N ca f hp hs hb hK
      obtain ⟨j0,b0,n0,o0,k0,c0,e0,hb⟩:=hb
      have z0:=hb.c0
      have z1:=hb.c1
      have z2:=hb.c2
      have z3:=hb.c3
      have z4:=hb.c4
      have y0:=hb.f 0
      have y1:=hb.f 1
      have y2:=hb.f 2
      have y3:=hb.f 3
      have y4:=hb.f 4
      match k,hk with
      | 0,_ =>
        have hp:t 5=.pointer (some ⟨g,0,none⟩):=hp
        have hs:t 30=.agg #[.int .i64 i,.bool bb,.bool nb,.slice ao N ca,.int .i64 f]:=hs
        rw [upd_self2 hp hs] at hK ⊢
        have e1:upd (upd t 5 (.pointer (some ⟨g,0,none⟩))) 30 (.agg #[.int .i64 i,.bool bb,.bool nb,.slice ao N ca,.int .i64 f]) 30=.agg #[.int .i64 i,.bool bb,.bool nb,.slice ao N ca,.int .i64 f]:=rfl
        have e2:upd (upd t 5 (.pointer (some ⟨g,0,none⟩))) 30 (.agg #[.int .i64 i,.bool bb,.bool nb,.slice ao N ca,.int .i64 f]) 5=.pointer (some ⟨g,0,none⟩):=rfl
        clear hp hs
        refine wpOp_step rfl (fun K' hK'=>?_)
        go_simp
        exact hK' _ _ hK
      | 1,_ =>
        have hp:t 6=.pointer (some ⟨g,0,none⟩):=hp
        have hs:t 31=.agg #[.int .i64 i,.bool bb,.bool nb,.slice ao N ca,.int .i64 f]:=hs
        rw [upd_self2 hp hs] at hK ⊢
        have e1:upd (upd t 6 (.pointer (some ⟨g,0,none⟩))) 31 (.agg #[.int .i64 i,.bool bb,.bool nb,.slice ao N ca,.int .i64 f]) 31=.agg #[.int .i64 i,.bool bb,.bool nb,.slice ao N ca,.int .i64 f]:=rfl
        have e2:upd (upd t 6 (.pointer (some ⟨g,0,none⟩))) 31 (.agg #[.int .i64 i,.bool bb,.bool nb,.slice ao N ca,.int .i64 f]) 6=.pointer (some ⟨g,0,none⟩):=rfl
        clear hp hs
        refine wpOp_step rfl (fun K' hK'=>?_)
        go_simp
        exact hK' _ _ hK
    case isnum =>
      intro k j hk hj e v w h
      match k,hk with
      | 0,_ =>
        have hall:∀ j,j<16→(#[30,31].getD 0 0)=(#[17,18,19,20,21,22,23,24,25,26,27,28,29,16,30,31].getD j 0)→j=14:=by decide
        obtain rfl:=hall j hj e
        obtain ⟨bb,nb,ao,N,ca,f,rfl,-⟩:=(show NumV w v _ _ from h)
        exact ⟨_,bb,nb,ao,N,ca,f,rfl⟩
      | 1,_ =>
        have hall:∀ j,j<16→(#[30,31].getD 1 0)=(#[17,18,19,20,21,22,23,24,25,26,27,28,29,16,30,31].getD j 0)→j=15:=by decide
        obtain rfl:=hall j hj e
        obtain ⟨bb,nb,ao,N,ca,f,rfl,-⟩:=(show NumV w v _ _ from h)
        exact ⟨_,bb,nb,ao,N,ca,f,rfl⟩
  · intro t g wx hE hF hg hne
    refine hK _ _ (Met.intro (hJ _ _ ?_))
    (repeat apply Exists.intro)
    refine ⟨?rel,rfl⟩
    exact ⟨g 0,g 1,t 30,t 31,(hg 0 (by decide)).1,(hg 1 (by decide)).1,⟨(hg 0 (by decide)).2.2,hF 14 (by decide)⟩,⟨(hg 1 (by decide)).2.2,hF 15 (by decide)⟩,hE⟩
def hullNLo (a b c d:Nat):Int × Dy:=spanLo (numI a,numD a) (numI b,numD b) (numI c,numD c) (numI d,numD d)
def hullNHi (a b c d:Nat):Int × Dy:=spanHi (numI a,numD a) (numI b,numD b) (numI c,numD c) (numI d,numD d)
set_option maxRecDepth 100000 in
set_option maxHeartbeats 16000000 in
theorem refHull_raw (a b c d:Nat) (g:Good a b) (g':Good c d) (w:World) (hT:Table w) :
    Calls Tryz.prog 24 #[.agg #[.int .u64 (a:Int),.int .u64 (b:Int)],.agg #[.int .u64 (c:Int),.int .u64 (d:Int)]] w fun e w'=>e=.returned (.agg #[.int .u64 ((rnN (hullNLo a b c d).1 (hullNLo a b c d).2 1:Nat):Int),.int .u64 ((rnN (hullNHi a b c d).1 (hullNHi a b c d).2 2:Nat):Int)])∧Ext w w':=by
  have C1:=Lib.hid (fun w=>refValid_any a b g.l1 g.l2 true g.valid w)
  have C2:=Lib.hid (fun w=>refValid_any c d g'.l1 g'.l2 true g'.valid w)
  have NA:=Lib.hid (fun w hT=>refNumOf_any a g.l1 _ _ rfl rfl w hT)
  have NB:=Lib.hid (fun w hT=>refNumOf_any b g.l2 _ _ rfl rfl w hT)
  have NC:=Lib.hid (fun w hT=>refNumOf_any c g'.l1 _ _ rfl rfl w hT)
  have ND:=Lib.hid (fun w hT=>refNumOf_any d g'.l2 _ _ rfl rfl w hT)
  have SP:=Lib.hid (fun u v x y w hu hv hx hy hT=>refSpan_any u v x y (numI a,numD a) (numI b,numD b) (numI c,numD c) (numI d,numD d) w hu hv hx hy hT)
  have OW:=Lib.hid (fun u v w hu hv hT=>refOutward_any u v (hullNLo a b c d).1 (hullNHi a b c d).1 (hullNLo a b c d).2 (hullNHi a b c d).2 w hu hv hT)
  unfold hullNLo hullNHi at OW
  unfold hullNLo hullNHi
  generalize (spanLo (numI a,numD a) (numI b,numD b) (numI c,numD c) (numI d,numD d)).1=LI at *
  generalize (spanLo (numI a,numD a) (numI b,numD b) (numI c,numD c) (numI d,numD d)).2=LD at *
  generalize (spanHi (numI a,numD a) (numI b,numD b) (numI c,numD c) (numI d,numD d)).1=HI at *
  generalize (spanHi (numI a,numD a) (numI b,numD b) (numI c,numD c) (numI d,numD d)).2=HD at *
  obtain ⟨x,hx⟩:∃ x:Int,((rnN LI LD 1:Nat):Int)=x:=⟨_,rfl⟩
  obtain ⟨y,hy⟩:∃ y:Int,((rnN HI HD 2:Nat):Int)=y:=⟨_,rfl⟩
  rw [hx,hy] at OW
  rw [hx,hy]
  have HT:=Lib.hid hT
  clear hx hy g g' hT
  go_enter Tryz.func24,Tryz.ntmps24
  go_upto_region 1 with fail
  obtain ⟨W,hW,hB,hx,hy,hbx,hsz⟩:=ibox_three w a b c d 0 0
  rw [←hW]
  clear hW
  generalize hBe:w.heap.size=B at *
  have HBe:=Lib.hid hBe
  have HB:Hid (Below B w W):=Lib.hid (by rw [←hBe];exact hB)
  clear hBe hB
  have hBs:B+3≤W.heap.size:=hsz
  clear hsz
  have c0:=hx.c0
  have c1:=hx.c1
  have c2:=hy.c0
  have c3:=hy.c1
  go_wp2_with fail
  refine (C1.out _).mono ?_
  rintro r w1 ⟨rfl,hE⟩
  have hx:=hx.below hE
  have hy:=hy.below hE
  have hbx:=hbx.below hE
  have HB:=Lib.hid (HB.out.trans (Below.mono hE (by omega)))
  have hBs:B+3≤w1.heap.size:=by have:=Below.size hE;omega
  clear c0 c1 c2 c3 hE
  have c0:=hx.c0
  have c1:=hx.c1
  have c2:=hy.c0
  have c3:=hy.c1
  go_wp2_with fail
  refine (C2.out _).mono ?_
  rintro r V ⟨rfl,hE⟩
  have hx:=hx.below hE
  have hy:=hy.below hE
  have hbx:=hbx.below hE
  have HB:=Lib.hid (HB.out.trans (Below.mono hE (by omega)))
  have hBs:B+3≤V.heap.size:=by have:=Below.size hE;omega
  clear c0 c1 c2 c3 hE
  have HC:=Lib.hid (show ∀ wx,Ext V wx→((wx.cell? ⟨B,0,none⟩=some (.int .u64 (a:Int))∧wx.cell? ⟨B,1,none⟩=some (.int .u64 (b:Int)))∧(wx.cell? ⟨B+1,0,none⟩=some (.int .u64 (c:Int))∧wx.cell? ⟨B+1,1,none⟩=some (.int .u64 (d:Int))))∧IBox wx (B+1+1) 0 0 from fun wx h=>⟨⟨⟨(hx.below h).c0,(hx.below h).c1⟩,(hy.below h).c0,(hy.below h).c1⟩,hbx.below h⟩)
  have HTV:=Lib.hid (show ∀ wx,Ext V wx→Table wx from fun wx h=>(HT.out.below (Below.mono HB.out (Nat.le_of_eq HBe.out))).below h)
  clear hx hy hbx
  have c0:=(HC.out V (Ext.refl _)).1.1.1
  have c1:=(HC.out V (Ext.refl _)).1.1.2
  have c2:=(HC.out V (Ext.refl _)).1.2.1
  have c3:=(HC.out V (Ext.refl _)).1.2.2
  go_upto_region 3 with fail
  clear c0 c1 c2 c3
  have HC0:=Lib.hid (fun wx (h:Ext V wx)=>(HC.out wx h).1.1.1)
  have HC1:=Lib.hid (fun wx (h:Ext V wx)=>(HC.out wx h).1.1.2)
  have HC2:=Lib.hid (fun wx (h:Ext V wx)=>(HC.out wx h).1.2.1)
  have HC3:=Lib.hid (fun wx (h:Ext V wx)=>(HC.out wx h).1.2.2)
  rename_i K HK
  refine refHull_r3 (fun _ _ h=>h) (fun a' wc hM=>HK _ _ ?_) NA NB NC ND HTV HC0 HC1 HC2 HC3 SP
  clear HK
  unfold Met at hM
  obtain ⟨u5,u6,u16,u17,u18,u19,u20,u21,u22,u23,u24,u25,u26,u27,u28,u29,u30,u31,u32,u33,u34,⟨h0,h1,v0,v1,rfl,rfl,⟨b0,n0⟩,⟨b1,n1⟩,st⟩,rfl⟩:=hM
  obtain ⟨li,lb,ln,lo,lk,lc,lf,rfl,b0⟩:=b0
  obtain ⟨mi,mb,mn,mo,mk,mc,mf,rfl,b1⟩:=b1
  have c0:=b0.c0
  have c1:=b0.c1
  have c2:=b0.c2
  have c3:=b0.c3
  have c4:=b0.c4
  have d0:=b1.c0
  have d1:=b1.c1
  have d2:=b1.c2
  have d3:=b1.c3
  have d4:=b1.c4
  have OW1:=Lib.hid (OW.out _ _ _ n0 n1 (HTV.out _ st))
  clear n0 n1 b0 b1
  go_wp2_with fail
  refine OW1.out.mono ?_
  rintro r wd ⟨rfl,hE⟩
  have std:Ext V wd:=Ext.trans st hE
  clear c0 c1 c2 c3 c4 d0 d1 d2 d3 d4 st hE
  obtain ⟨-,bz⟩:=HC.out wd std
  have z0:=bz.c0
  have z1:=bz.c1
  have z2:=bz.f 0
  have z3:=bz.f 1
  have hst:=bz.stored x y
  have y0:=hst.c0
  have y1:=hst.c1
  have HF:=Lib.hid ((HB.out.trans (Below.mono std (by omega))).trans ((only_iset2 wd (B+1+1) (.int .u64 x) (.int .u64 y)).below (by omega)))
  clear hst
  go_wp2
  refine bodyPost_ret (v:=.agg #[.int .u64 x,.int .u64 y]) (by simp [results,Tryz.results24,go_sem,y0,y1]) rfl ⟨rfl,?_⟩
  show Below _ _ _
  rw [HBe.out]
  exact HF.out
end Go.Proofs.YtkomhemjodbkpaaGreatDoor
