import Derived.Test.YtkomhemjodbkpaaGreatDoorIExLawU34
namespace Go.Proofs.YtkomhemjodbkpaaGreatDoor
open Go Go.RowKit
noncomputable def refSqr_r3_code:Code:=((Tryz.f20.body.bind (regOf 3)).getD .skip)
set_option maxRecDepth 100000 in
set_option maxHeartbeats 20000000 in
theorem refSqr_r3 {f0 f2 f3 f4 f5 f6 f7 f8 f9 f10 f11 f12 f13 f14 f15 f16 f17 f18 f19 f20 f21 f22 f23 f24 f25 f26 f27 f28 f29 f30 f31 f32 f33 f34 f35 f36 f37 f38 f39 f40 f41 f42 f43 f44:Value} {J K':Act→World→Prop} {Q':Exit→Act→World→Prop} {a b B:Nat} {V:World}
    (hJ:∀ (a':Act) (wx:World),(∃ u3 u4 u11 u12 u13 u14 u15 u16 u17 u18 u19 u20 u21 u22 u23 u24 u25 u26 u27 u28 u29 u30 u31 u32 u33 u34 u35 u36 u37 u38 u39 u40 u41 u42 u43 u44:Value,(∃ g0 g1 v0 v1,u3=.pointer (some ⟨g0,0,none⟩)∧u4=.pointer (some ⟨g1,0,none⟩)∧(NBv wx g0 v0∧NumV wx v0 (numI a) (numD a))∧(NBv wx g1 v1∧NumV wx v1 (numI b) (numD b))∧Ext V wx)∧a'=⟨#[f0,.pointer (some ⟨B,0,none⟩),f2,u3,u4,f5,f6,f7,f8,f9,f10,u11,u12,u13,u14,u15,u16,u17,u18,u19,u20,u21,u22,u23,u24,u25,u26,u27,u28,u29,u30,u31,u32,u33,u34,u35,u36,u37,u38,u39,u40,u41,u42,u43,u44],[]⟩)→J a' wx) (hK:∀ (a':Act) (wx:World),Met J a' wx→K' a' wx)
    (NA:Hid (∀ w,Table w→Calls Tryz.prog 48 #[.int .u64 (a:Int)] w fun e w'=>∃ v,e=.returned v∧NumV w' v (numI a) (numD a)∧Ext w w')) (NB:Hid (∀ w,Table w→Calls Tryz.prog 48 #[.int .u64 (b:Int)] w fun e w'=>∃ v,e=.returned v∧NumV w' v (numI b) (numD b)∧Ext w w')) (HTV:Hid (∀ wx,Ext V wx→Table wx)) (HC0:Hid (∀ wx,Ext V wx→wx.cell? ⟨B,0,none⟩=some (.int .u64 (a:Int)))) (HC1:Hid (∀ wx,Ext V wx→wx.cell? ⟨B,1,none⟩=some (.int .u64 (b:Int)))) :
    Code.wp Tryz.prog refSqr_r3_code (Exit.then K' Q') ⟨#[f0,.pointer (some ⟨B,0,none⟩),f2,f3,f4,f5,f6,f7,f8,f9,f10,f11,f12,f13,f14,f15,f16,f17,f18,f19,f20,f21,f22,f23,f24,f25,f26,f27,f28,f29,f30,f31,f32,f33,f34,f35,f36,f37,f38,f39,f40,f41,f42,f43,f44],[]⟩ V:=by
  conv=>arg 2;whnf
  refine wp_region_any (by kernel_rfl) ?_
  refine region_vars (V:=V) (fr:=fun t:Nat→Value=>(⟨#[f0,.pointer (some ⟨B,0,none⟩),f2,(t 3),(t 4),f5,f6,f7,f8,f9,f10,(t 11),(t 12),(t 13),(t 14),(t 15),(t 16),f17,f18,f19,f20,f21,f22,f23,f24,f25,f26,f27,f28,f29,f30,f31,f32,f33,f34,f35,f36,f37,f38,f39,f40,f41,f42,f43,f44],[]⟩:Act)) (m:=6) (n:=2) (dst:=fun j=>#[11,12,13,14,15,16].getD j 0) (vs:=fun k=>#[3,4].getD k 0) (src:=fun k=>#[13,16].getD k 0)
    (F:=fun j=>match j with | 0=>(fun v _=>v=.pointer (some ⟨B,0,none⟩)) | 1=>(fun v _=>v=.int .u64 (a:Int)) | 2=>(fun v w=>NumV w v (numI a) (numD a)) | 3=>(fun v _=>v=.pointer (some ⟨B,1,none⟩)) | 4=>(fun v _=>v=.int .u64 (b:Int)) | 5=>(fun v w=>NumV w v (numI b) (numD b)) | _=>fun _ _=>True) ?_ (fun s=>#[f0,.pointer (some ⟨B,0,none⟩),f2,f3,f4,f5,f6,f7,f8,f9,f10,f11,f12,f13,f14,f15,f16,f17,f18,f19,f20,f21,f22,f23,f24,f25,f26,f27,f28,f29,f30,f31,f32,f33,f34,f35,f36,f37,f38,f39,f40,f41,f42,f43,f44].getD s undef) (World.drew _) ((Below.refl _ _).drew) ?_
  · refine VRegion.mk (by kernel_rfl) (by kernel_rfl) (by decide) (by decide) (by decide) ?sd ?sa ?stays ?step ?alloc ?store ?isnum
    case sd =>
      intro k hk
      match k,hk with
      | 0,_=>exact ⟨2,by decide,rfl,by kernel_rfl⟩
      | 1,_=>exact ⟨5,by decide,rfl,by kernel_rfl⟩
    case sa =>
      intro k hk
      match k,hk with
      | 0,_=>show (_:Bool)=true;kernel_rfl
      | 1,_=>show (_:Bool)=true;kernel_rfl
    case stays =>
      intro j hj
      match j,hj with
      | 0,_=>exact Stays.eq _
      | 1,_=>exact Stays.eq _
      | 2,_=>exact Stays.num _ _
      | 3,_=>exact Stays.eq _
      | 4,_=>exact Stays.eq _
      | 5,_=>exact Stays.num _ _
    case step =>
      intro j hj t w hE hd K hK
      match j,hj with
      | 0,_ =>
        refine wpOp_step rfl (fun K' hK'=>?_)
        go_simp
        exact hK' _ _ (hK (.pointer (some ⟨B,0,none⟩)) w (Ext.refl _) rfl)
      | 1,_ =>
        have d1:t 11=.pointer (some ⟨B,0,none⟩):=hd 0 (by decide) (by kernel_rfl)
        have c1:=HC0.out w hE
        rw [upd_self d1] at hK ⊢
        have e1:upd t 11 (.pointer (some ⟨B,0,none⟩)) 11=.pointer (some ⟨B,0,none⟩):=rfl
        clear hd d1
        refine wpOp_step rfl (fun K' hK'=>?_)
        go_simp
        exact hK' _ _ (hK (.int .u64 (a:Int)) w (Ext.refl _) rfl)
      | 2,_ =>
        have d1:t 12=.int .u64 (a:Int):=hd 1 (by decide) (by kernel_rfl)
        have hT:=HTV.out w hE
        rw [upd_self d1] at hK ⊢
        have e1:upd t 12 (.int .u64 (a:Int)) 12=.int .u64 (a:Int):=rfl
        clear hd d1
        refine wpOp_step rfl (fun K' hK'=>?_)
        go_simp
        go_wp2_with (go_at_call 48;(with_reducible refine (NA.out _ hT).mono ?_);rintro r wn ⟨v,rfl,hv,hE'⟩)
        first | exact hK v wn hE' hv | exact hK' _ _ (hK v wn hE' hv)
      | 3,_ =>
        refine wpOp_step rfl (fun K' hK'=>?_)
        go_simp
        exact hK' _ _ (hK (.pointer (some ⟨B,1,none⟩)) w (Ext.refl _) rfl)
      | 4,_ =>
        have d1:t 14=.pointer (some ⟨B,1,none⟩):=hd 3 (by decide) (by kernel_rfl)
        have c1:=HC1.out w hE
        rw [upd_self d1] at hK ⊢
        have e1:upd t 14 (.pointer (some ⟨B,1,none⟩)) 14=.pointer (some ⟨B,1,none⟩):=rfl
        clear hd d1
        refine wpOp_step rfl (fun K' hK'=>?_)
        go_simp
        exact hK' _ _ (hK (.int .u64 (b:Int)) w (Ext.refl _) rfl)
      | 5,_ =>
        have d1:t 15=.int .u64 (b:Int):=hd 4 (by decide) (by kernel_rfl)
        have hT:=HTV.out w hE
        rw [upd_self d1] at hK ⊢
        have e1:upd t 15 (.int .u64 (b:Int)) 15=.int .u64 (b:Int):=rfl
        clear hd d1
        refine wpOp_step rfl (fun K' hK'=>?_)
        go_simp
        go_wp2_with (go_at_call 48;(with_reducible refine (NB.out _ hT).mono ?_);rintro r wn ⟨v,rfl,hv,hE'⟩)
        first | exact hK v wn hE' hv | exact hK' _ _ (hK v wn hE' hv)
    case alloc =>
      intro k hk t w K hK
      match k,hk with
      | 0,_ =>
        refine wpOp_step rfl (fun K' hK'=>?_)
        go_simp
        exact hK' _ _ hK
      | 1,_ =>
        refine wpOp_step rfl (fun K' hK'=>?_)
        go_simp
        exact hK' _ _ hK
    case store =>
      intro k hk t w K g i bb nb ao N ca f hp hs hb hK
      obtain ⟨j0,b0,n0,o0,k0,c0,e0,hb⟩:=hb
      have z0:=hb.c0
      have z1:=hb.c1
      have z2:=hb.c2
      have z3:=hb.c3
      have z4:=hb.c4
      have y0:=hb.f 0
      have y1:=hb.f 1
      have y2:=hb.f 2
      have y3:=hb.f 3
      have y4:=hb.f 4
      match k,hk with
      | 0,_ =>
        have hp:t 3=.pointer (some ⟨g,0,none⟩):=hp
        have hs:t 13=.agg #[.int .i64 i,.bool bb,.bool nb,.slice ao N ca,.int .i64 f]:=hs
        rw [upd_self2 hp hs] at hK ⊢
        have e1:upd (upd t 3 (.pointer (some ⟨g,0,none⟩))) 13 (.agg #[.int .i64 i,.bool bb,.bool nb,.slice ao N ca,.int .i64 f]) 13=.agg #[.int .i64 i,.bool bb,.bool nb,.slice ao N ca,.int .i64 f]:=rfl
        have e2:upd (upd t 3 (.pointer (some ⟨g,0,none⟩))) 13 (.agg #[.int .i64 i,.bool bb,.bool nb,.slice ao N ca,.int .i64 f]) 3=.pointer (some ⟨g,0,none⟩):=rfl
        clear hp hs
        refine wpOp_step rfl (fun K' hK'=>?_)
        go_simp
        exact hK' _ _ hK
      | 1,_ =>
        have hp:t 4=.pointer (some ⟨g,0,none⟩):=hp
        have hs:t 16=.agg #[.int .i64 i,.bool bb,.bool nb,.slice ao N ca,.int .i64 f]:=hs
        rw [upd_self2 hp hs] at hK ⊢
        have e1:upd (upd t 4 (.pointer (some ⟨g,0,none⟩))) 16 (.agg #[.int .i64 i,.bool bb,.bool nb,.slice ao N ca,.int .i64 f]) 16=.agg #[.int .i64 i,.bool bb,.bool nb,.slice ao N ca,.int .i64 f]:=rfl
        have e2:upd (upd t 4 (.pointer (some ⟨g,0,none⟩))) 16 (.agg #[.int .i64 i,.bool bb,.bool nb,.slice ao N ca,.int .i64 f]) 4=.pointer (some ⟨g,0,none⟩):=rfl
        clear hp hs
        refine wpOp_step rfl (fun K' hK'=>?_)
        go_simp
        exact hK' _ _ hK
    case isnum =>
      intro k j hk hj e v w h
      match k,hk with
      | 0,_ =>
        have hall:∀ j,j<6→(#[13,16].getD 0 0)=(#[11,12,13,14,15,16].getD j 0)→j=2:=by decide
        obtain rfl:=hall j hj e
        obtain ⟨bb,nb,ao,N,ca,f,rfl,-⟩:=(show NumV w v _ _ from h)
        exact ⟨_,bb,nb,ao,N,ca,f,rfl⟩
      | 1,_ =>
        have hall:∀ j,j<6→(#[13,16].getD 1 0)=(#[11,12,13,14,15,16].getD j 0)→j=5:=by decide
        obtain rfl:=hall j hj e
        obtain ⟨bb,nb,ao,N,ca,f,rfl,-⟩:=(show NumV w v _ _ from h)
        exact ⟨_,bb,nb,ao,N,ca,f,rfl⟩
  · intro t g wx hE hF hg hne
    refine hK _ _ (Met.intro (hJ _ _ ?_))
    (repeat apply Exists.intro)
    refine ⟨?rel,rfl⟩
    exact ⟨g 0,g 1,t 13,t 16,(hg 0 (by decide)).1,(hg 1 (by decide)).1,⟨(hg 0 (by decide)).2.2,hF 2 (by decide)⟩,⟨(hg 1 (by decide)).2.2,hF 5 (by decide)⟩,hE⟩
noncomputable def refSqr_r4_code:Code:=((Tryz.f20.body.bind (regOf 4)).getD .skip)
set_option maxRecDepth 100000 in
set_option maxHeartbeats 20000000 in
theorem refSqr_r4 {f0 f1 f2 f5 f6 f7 f8 f9 f10 f11 f12 f13 f14 f15 f16 f17 f18 f19 f20 f21 f22 f23 f24 f25 f26 f27 f28 f29 f30 f31 f32 f33 f34 f35 f36 f37 f38 f39 f40 f41 f42 f43 f44:Value} {J K':Act→World→Prop} {Q':Exit→Act→World→Prop} {g0 g1:Nat} {V:World} {ab an:Bool} {ao:Option Addr} {ak ac:Nat} {ai af:Int} {aI:Int} {aD:Dy} {bb bn:Bool} {bo:Option Addr} {bk bc:Nat} {bi bf:Int} {bI:Int} {bD:Dy} {q0I:Int} {q0D:Dy} {q1I:Int} {q1D:Dy} {LI HI:Int} {LD HD:Dy}
    (hJ:∀ (a':Act) (wx:World),(∃ u5 u6 u17 u18 u19 u20 u21 u22 u23 u24 u25 u26 u27 u28 u29 u30 u31 u32 u33 u34 u35 u36 u37 u38 u39 u40 u41 u42 u43 u44:Value,(∃ h0 h1 v0 v1,u5=.pointer (some ⟨h0,0,none⟩)∧u6=.pointer (some ⟨h1,0,none⟩)∧(NBv wx h0 v0∧NumV wx v0 LI LD∧V.heap.size≤h0)∧(NBv wx h1 v1∧NumV wx v1 HI HD)∧h1≠h0∧Ext V wx)∧a'=⟨#[f0,f1,f2,.pointer (some ⟨g0,0,none⟩),.pointer (some ⟨g1,0,none⟩),u5,u6,f7,f8,f9,f10,f11,f12,f13,f14,f15,f16,u17,u18,u19,u20,u21,u22,u23,u24,u25,u26,u27,u28,u29,u30,u31,u32,u33,u34,u35,u36,u37,u38,u39,u40,u41,u42,u43,u44],[]⟩)→J a' wx) (hK:∀ (a':Act) (wx:World),Met J a' wx→K' a' wx)
    (HC0:Hid (∀ wx,Ext V wx→(wx.cell? ⟨g0,0,none⟩=some (.int .i64 ai)∧wx.cell? ⟨g0,1,none⟩=some (.bool ab)∧wx.cell? ⟨g0,2,none⟩=some (.bool an)∧wx.cell? ⟨g0,3,none⟩=some (.slice ao ak ac)∧wx.cell? ⟨g0,4,none⟩=some (.int .i64 af)))) (HC1:Hid (∀ wx,Ext V wx→(wx.cell? ⟨g1,0,none⟩=some (.int .i64 bi)∧wx.cell? ⟨g1,1,none⟩=some (.bool bb)∧wx.cell? ⟨g1,2,none⟩=some (.bool bn)∧wx.cell? ⟨g1,3,none⟩=some (.slice bo bk bc)∧wx.cell? ⟨g1,4,none⟩=some (.int .i64 bf)))) (NV0:Hid (∀ wx,Ext V wx→NumV wx (.agg #[.int .i64 ai,.bool ab,.bool an,.slice ao ak ac,.int .i64 af]) aI aD)) (NV1:Hid (∀ wx,Ext V wx→NumV wx (.agg #[.int .i64 bi,.bool bb,.bool bn,.slice bo bk bc,.int .i64 bf]) bI bD)) (HTV:Hid (∀ wx,Ext V wx→Table wx)) (PR0:Hid (∀ u v w,NumV w u aI aD→NumV w v aI aD→Table w→Calls Tryz.prog 52 #[u,v] w fun e w'=>∃ r,e=.returned r∧NumV w' r q0I q0D∧Ext w w')) (PR1:Hid (∀ u v w,NumV w u bI bD→NumV w v bI bD→Table w→Calls Tryz.prog 52 #[u,v] w fun e w'=>∃ r,e=.returned r∧NumV w' r q1I q1D∧Ext w w')) (SP:Hid (∀ u v x y w,NumV w u q0I q0D→NumV w v q1I q1D→NumV w x q0I q0D→NumV w y q1I q1D→Table w→Calls Tryz.prog 51 #[u,v,x,y] w fun e w'=>∃ lo hi,e=.returned (.tuple #[lo,hi])∧NumV w' lo LI LD∧NumV w' hi HI HD∧Ext w w')) :
    Code.wp Tryz.prog refSqr_r4_code (Exit.then K' Q') ⟨#[f0,f1,f2,.pointer (some ⟨g0,0,none⟩),.pointer (some ⟨g1,0,none⟩),f5,f6,f7,f8,f9,f10,f11,f12,f13,f14,f15,f16,f17,f18,f19,f20,f21,f22,f23,f24,f25,f26,f27,f28,f29,f30,f31,f32,f33,f34,f35,f36,f37,f38,f39,f40,f41,f42,f43,f44],[]⟩ V:=by
  conv=>arg 2;whnf
  refine wp_region_any (by kernel_rfl) ?_
  refine region_vars (V:=V) (fr:=fun t:Nat→Value=>(⟨#[f0,f1,f2,.pointer (some ⟨g0,0,none⟩),.pointer (some ⟨g1,0,none⟩),(t 5),(t 6),f7,f8,f9,f10,f11,f12,f13,f14,f15,f16,(t 17),(t 18),(t 19),(t 20),(t 21),(t 22),(t 23),(t 24),(t 25),(t 26),(t 27),(t 28),(t 29),(t 30),(t 31),(t 32),f33,f34,f35,f36,f37,f38,f39,f40,f41,f42,f43,f44],[]⟩:Act)) (m:=16) (n:=2) (dst:=fun j=>#[18,19,20,21,22,23,24,25,26,27,28,29,30,17,31,32].getD j 0) (vs:=fun k=>#[5,6].getD k 0) (src:=fun k=>#[31,32].getD k 0)
    (F:=fun j=>match j with | 0=>(fun v w=>NumV w v aI aD) | 1=>(fun v w=>NumV w v aI aD) | 2=>(fun v w=>NumV w v q0I q0D) | 3=>(fun v w=>NumV w v bI bD) | 4=>(fun v w=>NumV w v bI bD) | 5=>(fun v w=>NumV w v q1I q1D) | 6=>(fun v w=>NumV w v aI aD) | 7=>(fun v w=>NumV w v aI aD) | 8=>(fun v w=>NumV w v q0I q0D) | 9=>(fun v w=>NumV w v bI bD) | 10=>(fun v w=>NumV w v bI bD) | 11=>(fun v w=>NumV w v q1I q1D) | 12=>(fun v w=>∃ lo hi,v=.tuple #[lo,hi]∧NumV w lo LI LD∧NumV w hi HI HD) | 13=>(fun v w=>∃ lo hi,v=.tuple #[lo,hi]∧NumV w lo LI LD∧NumV w hi HI HD) | 14=>(fun v w=>NumV w v LI LD) | 15=>(fun v w=>NumV w v HI HD) | _=>fun _ _=>True) ?_ (fun s=>#[f0,f1,f2,.pointer (some ⟨g0,0,none⟩),.pointer (some ⟨g1,0,none⟩),f5,f6,f7,f8,f9,f10,f11,f12,f13,f14,f15,f16,f17,f18,f19,f20,f21,f22,f23,f24,f25,f26,f27,f28,f29,f30,f31,f32,f33,f34,f35,f36,f37,f38,f39,f40,f41,f42,f43,f44].getD s undef) (World.drew _) ((Below.refl _ _).drew) ?_
  · refine VRegion.mk (by kernel_rfl) (by kernel_rfl) (by decide) (by decide) (by decide) ?sd ?sa ?stays ?step ?alloc ?store ?isnum
    case sd =>
      intro k hk
      match k,hk with
      | 0,_=>exact ⟨14,by decide,rfl,by kernel_rfl⟩
      | 1,_=>exact ⟨15,by decide,rfl,by kernel_rfl⟩
    case sa =>
      intro k hk
      match k,hk with
      | 0,_=>show (_:Bool)=true;kernel_rfl
      | 1,_=>show (_:Bool)=true;kernel_rfl
    case stays =>
      intro j hj
      match j,hj with
      | 0,_=>exact Stays.num _ _
      | 1,_=>exact Stays.num _ _
      | 2,_=>exact Stays.num _ _
      | 3,_=>exact Stays.num _ _
      | 4,_=>exact Stays.num _ _
      | 5,_=>exact Stays.num _ _
      | 6,_=>exact Stays.num _ _
      | 7,_=>exact Stays.num _ _
      | 8,_=>exact Stays.num _ _
      | 9,_=>exact Stays.num _ _
      | 10,_=>exact Stays.num _ _
      | 11,_=>exact Stays.num _ _
      | 12,_=>exact Stays.pair _ _ _ _
      | 13,_=>exact Stays.pair _ _ _ _
      | 14,_=>exact Stays.num _ _
      | 15,_=>exact Stays.num _ _
      | k+16,h=>exact absurd h (by omega)
    case step =>
      intro j hj t w hE hd K hK
      match j,hj with
      | 0,_ =>
        obtain ⟨c0,c1,c2,c3,c4⟩:=HC0.out w hE
        refine wpOp_step rfl (fun K' hK'=>?_)
        go_simp
        exact hK' _ _ (hK (.agg #[.int .i64 ai,.bool ab,.bool an,.slice ao ak ac,.int .i64 af]) w (Ext.refl _) (NV0.out w hE))
      | 1,_ =>
        obtain ⟨c0,c1,c2,c3,c4⟩:=HC0.out w hE
        refine wpOp_step rfl (fun K' hK'=>?_)
        go_simp
        exact hK' _ _ (hK (.agg #[.int .i64 ai,.bool ab,.bool an,.slice ao ak ac,.int .i64 af]) w (Ext.refl _) (NV0.out w hE))
      | 2,_ =>
        have d0:NumV w (t 18) aI aD:=hd 0 (by decide) (by kernel_rfl)
        have d1:NumV w (t 19) aI aD:=hd 1 (by decide) (by kernel_rfl)
        have hT:=HTV.out w hE
        clear hd
        refine wpOp_step rfl (fun K' hK'=>?_)
        go_simp
        go_wp2_with (go_at_call 52;(refine (PR0.out _ _ _ d0 d1 hT).mono ?_);rintro r wn ⟨v,rfl,hv,hE'⟩)
        first | exact hK v wn hE' hv | exact hK' _ _ (hK v wn hE' hv)
      | 3,_ =>
        obtain ⟨c0,c1,c2,c3,c4⟩:=HC1.out w hE
        refine wpOp_step rfl (fun K' hK'=>?_)
        go_simp
        exact hK' _ _ (hK (.agg #[.int .i64 bi,.bool bb,.bool bn,.slice bo bk bc,.int .i64 bf]) w (Ext.refl _) (NV1.out w hE))
      | 4,_ =>
        obtain ⟨c0,c1,c2,c3,c4⟩:=HC1.out w hE
        refine wpOp_step rfl (fun K' hK'=>?_)
        go_simp
        exact hK' _ _ (hK (.agg #[.int .i64 bi,.bool bb,.bool bn,.slice bo bk bc,.int .i64 bf]) w (Ext.refl _) (NV1.out w hE))
      | 5,_ =>
        have d0:NumV w (t 21) bI bD:=hd 3 (by decide) (by kernel_rfl)
        have d1:NumV w (t 22) bI bD:=hd 4 (by decide) (by kernel_rfl)
        have hT:=HTV.out w hE
        clear hd
        refine wpOp_step rfl (fun K' hK'=>?_)
        go_simp
        go_wp2_with (go_at_call 52;(refine (PR1.out _ _ _ d0 d1 hT).mono ?_);rintro r wn ⟨v,rfl,hv,hE'⟩)
        first | exact hK v wn hE' hv | exact hK' _ _ (hK v wn hE' hv)
      | 6,_ =>
        obtain ⟨c0,c1,c2,c3,c4⟩:=HC0.out w hE
        refine wpOp_step rfl (fun K' hK'=>?_)
        go_simp
        exact hK' _ _ (hK (.agg #[.int .i64 ai,.bool ab,.bool an,.slice ao ak ac,.int .i64 af]) w (Ext.refl _) (NV0.out w hE))
      | 7,_ =>
        obtain ⟨c0,c1,c2,c3,c4⟩:=HC0.out w hE
        refine wpOp_step rfl (fun K' hK'=>?_)
        go_simp
        exact hK' _ _ (hK (.agg #[.int .i64 ai,.bool ab,.bool an,.slice ao ak ac,.int .i64 af]) w (Ext.refl _) (NV0.out w hE))
      | 8,_ =>
        have d0:NumV w (t 24) aI aD:=hd 6 (by decide) (by kernel_rfl)
        have d1:NumV w (t 25) aI aD:=hd 7 (by decide) (by kernel_rfl)
        have hT:=HTV.out w hE
        clear hd
        refine wpOp_step rfl (fun K' hK'=>?_)
        go_simp
        go_wp2_with (go_at_call 52;(refine (PR0.out _ _ _ d0 d1 hT).mono ?_);rintro r wn ⟨v,rfl,hv,hE'⟩)
        first | exact hK v wn hE' hv | exact hK' _ _ (hK v wn hE' hv)
      | 9,_ =>
        obtain ⟨c0,c1,c2,c3,c4⟩:=HC1.out w hE
        refine wpOp_step rfl (fun K' hK'=>?_)
        go_simp
        exact hK' _ _ (hK (.agg #[.int .i64 bi,.bool bb,.bool bn,.slice bo bk bc,.int .i64 bf]) w (Ext.refl _) (NV1.out w hE))
      | 10,_ =>
        obtain ⟨c0,c1,c2,c3,c4⟩:=HC1.out w hE
        refine wpOp_step rfl (fun K' hK'=>?_)
        go_simp
        exact hK' _ _ (hK (.agg #[.int .i64 bi,.bool bb,.bool bn,.slice bo bk bc,.int .i64 bf]) w (Ext.refl _) (NV1.out w hE))
      | 11,_ =>
        have d0:NumV w (t 27) bI bD:=hd 9 (by decide) (by kernel_rfl)
        have d1:NumV w (t 28) bI bD:=hd 10 (by decide) (by kernel_rfl)
        have hT:=HTV.out w hE
        clear hd
        refine wpOp_step rfl (fun K' hK'=>?_)
        go_simp
        go_wp2_with (go_at_call 52;(refine (PR1.out _ _ _ d0 d1 hT).mono ?_);rintro r wn ⟨v,rfl,hv,hE'⟩)
        first | exact hK v wn hE' hv | exact hK' _ _ (hK v wn hE' hv)
      | 12,_ =>
        have d0:NumV w (t 20) q0I q0D:=hd 2 (by decide) (by kernel_rfl)
        have d1:NumV w (t 23) q1I q1D:=hd 5 (by decide) (by kernel_rfl)
        have d2:NumV w (t 26) q0I q0D:=hd 8 (by decide) (by kernel_rfl)
        have d3:NumV w (t 29) q1I q1D:=hd 11 (by decide) (by kernel_rfl)
        have hT:=HTV.out w hE
        clear hd
        refine wpOp_step rfl (fun K' hK'=>?_)
        go_simp
        go_wp2_with (go_at_call 51;(refine (SP.out _ _ _ _ _ d0 d1 d2 d3 hT).mono ?_);rintro r wn ⟨lo,hi,rfl,hl,hh,hE'⟩)
        first | exact hK _ wn hE' ⟨lo,hi,rfl,hl,hh⟩ | exact hK' _ _ (hK _ wn hE' ⟨lo,hi,rfl,hl,hh⟩)
      | 13,_ =>
        have d1:∃ lo hi,t 30=.tuple #[lo,hi]∧NumV w lo LI LD∧NumV w hi HI HD:=hd 12 (by decide) (by kernel_rfl)
        obtain ⟨lo,hi,e,n1,n2⟩:=d1
        clear hd
        rw [upd_self e] at hK ⊢
        have e1:upd t 30 (.tuple #[lo,hi]) 30=.tuple #[lo,hi]:=rfl
        clear e
        refine wpOp_step rfl (fun K' hK'=>?_)
        go_simp
        exact hK' _ _ (hK (.tuple #[lo,hi]) w (Ext.refl _) ⟨lo,hi,rfl,n1,n2⟩)
      | 14,_ =>
        have d1:∃ lo hi,t 17=.tuple #[lo,hi]∧NumV w lo LI LD∧NumV w hi HI HD:=hd 13 (by decide) (by kernel_rfl)
        obtain ⟨lo,hi,e,n1,n2⟩:=d1
        clear hd
        rw [upd_self e] at hK ⊢
        have e1:upd t 17 (.tuple #[lo,hi]) 17=.tuple #[lo,hi]:=rfl
        clear e
        refine wpOp_step rfl (fun K' hK'=>?_)
        go_simp
        exact hK' _ _ (hK lo w (Ext.refl _) n1)
      | 15,_ =>
        have d1:∃ lo hi,t 17=.tuple #[lo,hi]∧NumV w lo LI LD∧NumV w hi HI HD:=hd 13 (by decide) (by kernel_rfl)
        obtain ⟨lo,hi,e,n1,n2⟩:=d1
        clear hd
        rw [upd_self e] at hK ⊢
        have e1:upd t 17 (.tuple #[lo,hi]) 17=.tuple #[lo,hi]:=rfl
        clear e
        refine wpOp_step rfl (fun K' hK'=>?_)
        go_simp
        exact hK' _ _ (hK hi w (Ext.refl _) n2)
      | k+16,h=>exact absurd h (by omega)
    case alloc =>
      intro k hk t w K hK
      match k,hk with
      | 0,_ =>
        refine wpOp_step rfl (fun K' hK'=>?_)
        go_simp
        exact hK' _ _ hK
      | 1,_ =>
        refine wpOp_step rfl (fun K' hK'=>?_)
        go_simp
        exact hK' _ _ hK
    case store =>
      intro k hk t w K g i bb nb ao N ca f hp hs hb hK
      obtain ⟨j0,b0,n0,o0,k0,c0,e0,hb⟩:=hb
      have z0:=hb.c0
      have z1:=hb.c1
      have z2:=hb.c2
      have z3:=hb.c3
      have z4:=hb.c4
      have y0:=hb.f 0
      have y1:=hb.f 1
      have y2:=hb.f 2
      have y3:=hb.f 3
      have y4:=hb.f 4
      match k,hk with
      | 0,_ =>
        have hp:t 5=.pointer (some ⟨g,0,none⟩):=hp
        have hs:t 31=.agg #[.int .i64 i,.bool bb,.bool nb,.slice ao N ca,.int .i64 f]:=hs
        rw [upd_self2 hp hs] at hK ⊢
        have e1:upd (upd t 5 (.pointer (some ⟨g,0,none⟩))) 31 (.agg #[.int .i64 i,.bool bb,.bool nb,.slice ao N ca,.int .i64 f]) 31=.agg #[.int .i64 i,.bool bb,.bool nb,.slice ao N ca,.int .i64 f]:=rfl
        have e2:upd (upd t 5 (.pointer (some ⟨g,0,none⟩))) 31 (.agg #[.int .i64 i,.bool bb,.bool nb,.slice ao N ca,.int .i64 f]) 5=.pointer (some ⟨g,0,none⟩):=rfl
        clear hp hs
        refine wpOp_step rfl (fun K' hK'=>?_)
        go_simp
        exact hK' _ _ hK
      | 1,_ =>
        have hp:t 6=.pointer (some ⟨g,0,none⟩):=hp
        have hs:t 32=.agg #[.int .i64 i,.bool bb,.bool nb,.slice ao N ca,.int .i64 f]:=hs
        rw [upd_self2 hp hs] at hK ⊢
        have e1:upd (upd t 6 (.pointer (some ⟨g,0,none⟩))) 32 (.agg #[.int .i64 i,.bool bb,.bool nb,.slice ao N ca,.int .i64 f]) 32=.agg #[.int .i64 i,.bool bb,.bool nb,.slice ao N ca,.int .i64 f]:=rfl
        have e2:upd (upd t 6 (.pointer (some ⟨g,0,none⟩))) 32 (.agg #[.int .i64 i,.bool bb,.bool nb,.slice ao N ca,.int .i64 f]) 6=.pointer (some ⟨g,0,none⟩):=rfl
        clear hp hs
        refine wpOp_step rfl (fun K' hK'=>?_)
        go_simp
        exact hK' _ _ hK
    case isnum =>
      intro k j hk hj e v w h
      match k,hk with
      | 0,_ =>
        have hall:∀ j,j<16→(#[31,32].getD 0 0)=(#[18,19,20,21,22,23,24,25,26,27,28,29,30,17,31,32].getD j 0)→j=14:=by decide
        obtain rfl:=hall j hj e
        obtain ⟨bb,nb,ao,N,ca,f,rfl,-⟩:=(show NumV w v _ _ from h)
        exact ⟨_,bb,nb,ao,N,ca,f,rfl⟩
      | 1,_ =>
        have hall:∀ j,j<16→(#[31,32].getD 1 0)=(#[18,19,20,21,22,23,24,25,26,27,28,29,30,17,31,32].getD j 0)→j=15:=by decide
        obtain rfl:=hall j hj e
        obtain ⟨bb,nb,ao,N,ca,f,rfl,-⟩:=(show NumV w v _ _ from h)
        exact ⟨_,bb,nb,ao,N,ca,f,rfl⟩
  · intro t g wx hE hF hg hne
    refine hK _ _ (Met.intro (hJ _ _ ?_))
    (repeat apply Exists.intro)
    refine ⟨?rel,rfl⟩
    exact ⟨g 0,g 1,t 31,t 32,(hg 0 (by decide)).1,(hg 1 (by decide)).1,⟨(hg 0 (by decide)).2.2,hF 14 (by decide),(hg 0 (by decide)).2.1⟩,⟨(hg 1 (by decide)).2.2,hF 15 (by decide)⟩,hne 1 0 (by decide) (by decide) (by decide),hE⟩
end Go.Proofs.YtkomhemjodbkpaaGreatDoor
