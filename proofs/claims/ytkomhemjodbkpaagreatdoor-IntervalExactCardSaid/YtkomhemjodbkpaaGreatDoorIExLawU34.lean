import Derived.Test.YtkomhemjodbkpaaGreatDoorIExLawU28
import Derived.Test.YtkomhemjodbkpaaGreatDoorIExLawU31
import Derived.Test.YtkomhemjodbkpaaGreatDoorIExLawU33
namespace Go.Proofs.YtkomhemjodbkpaaGreatDoor
open Go Go.RowKit
theorem Stays.pair (i j:Int) (d e:Dy):Stays (fun v w=>∃ lo hi,v=.tuple #[lo,hi]∧NumV w lo i d∧NumV w hi j e) :=
  ⟨fun _ _ _ ⟨lo,hi,h,a,b⟩ hE=>⟨lo,hi,h,a.ext hE,b.ext hE⟩,fun _ _ _ _ ⟨lo,hi,h,a,b⟩ hg ho=>⟨lo,hi,h,a.only_nba hg ho,b.only_nba hg ho⟩⟩
noncomputable def refMul_r4_code:Code:=((Tryz.f16.body.bind (regOf 4)).getD .skip)
set_option maxRecDepth 100000 in
set_option maxHeartbeats 20000000 in
theorem refMul_r4 {f0 f1 f2 f3 f4 f9 f10 f11 f12 f13 f14 f15 f16 f17 f18 f19 f20 f21 f22 f23 f24 f25 f26 f27 f28 f29 f30 f31 f32 f33 f34 f35 f36 f37 f38 f39 f40 f41 f42 f43 f44 f45 f46 f47 f48 f49 f50:Value} {J K':Act→World→Prop} {Q':Exit→Act→World→Prop} {g0 g1 g2 g3:Nat} {V:World} {ab an:Bool} {ao:Option Addr} {ak ac:Nat} {ai af:Int} {aI:Int} {aD:Dy} {bb bn:Bool} {bo:Option Addr} {bk bc:Nat} {bi bf:Int} {bI:Int} {bD:Dy} {cb cn:Bool} {co:Option Addr} {ck cc:Nat} {ci cf:Int} {cI:Int} {cD:Dy} {eb en:Bool} {eo:Option Addr} {ek ec:Nat} {ei ef:Int} {eI:Int} {eD:Dy} {q0I:Int} {q0D:Dy} {q1I:Int} {q1D:Dy} {q2I:Int} {q2D:Dy} {q3I:Int} {q3D:Dy} {LI HI:Int} {LD HD:Dy}
    (hJ:∀ (a':Act) (wx:World),(∃ u9 u10 u32 u33 u34 u35 u36 u37 u38 u39 u40 u41 u42 u43 u44 u45 u46 u47 u48 u49 u50:Value,(∃ h0 h1 v0 v1,u9=.pointer (some ⟨h0,0,none⟩)∧u10=.pointer (some ⟨h1,0,none⟩)∧(NBv wx h0 v0∧NumV wx v0 LI LD)∧(NBv wx h1 v1∧NumV wx v1 HI HD)∧Ext V wx)∧a'=⟨#[f0,f1,f2,f3,f4,.pointer (some ⟨g0,0,none⟩),.pointer (some ⟨g1,0,none⟩),.pointer (some ⟨g2,0,none⟩),.pointer (some ⟨g3,0,none⟩),u9,u10,f11,f12,f13,f14,f15,f16,f17,f18,f19,f20,f21,f22,f23,f24,f25,f26,f27,f28,f29,f30,f31,u32,u33,u34,u35,u36,u37,u38,u39,u40,u41,u42,u43,u44,u45,u46,u47,u48,u49,u50],[]⟩)→J a' wx) (hK:∀ (a':Act) (wx:World),Met J a' wx→K' a' wx)
    (HC0:Hid (∀ wx,Ext V wx→(wx.cell? ⟨g0,0,none⟩=some (.int .i64 ai)∧wx.cell? ⟨g0,1,none⟩=some (.bool ab)∧wx.cell? ⟨g0,2,none⟩=some (.bool an)∧wx.cell? ⟨g0,3,none⟩=some (.slice ao ak ac)∧wx.cell? ⟨g0,4,none⟩=some (.int .i64 af)))) (HC1:Hid (∀ wx,Ext V wx→(wx.cell? ⟨g1,0,none⟩=some (.int .i64 bi)∧wx.cell? ⟨g1,1,none⟩=some (.bool bb)∧wx.cell? ⟨g1,2,none⟩=some (.bool bn)∧wx.cell? ⟨g1,3,none⟩=some (.slice bo bk bc)∧wx.cell? ⟨g1,4,none⟩=some (.int .i64 bf)))) (HC2:Hid (∀ wx,Ext V wx→(wx.cell? ⟨g2,0,none⟩=some (.int .i64 ci)∧wx.cell? ⟨g2,1,none⟩=some (.bool cb)∧wx.cell? ⟨g2,2,none⟩=some (.bool cn)∧wx.cell? ⟨g2,3,none⟩=some (.slice co ck cc)∧wx.cell? ⟨g2,4,none⟩=some (.int .i64 cf)))) (HC3:Hid (∀ wx,Ext V wx→(wx.cell? ⟨g3,0,none⟩=some (.int .i64 ei)∧wx.cell? ⟨g3,1,none⟩=some (.bool eb)∧wx.cell? ⟨g3,2,none⟩=some (.bool en)∧wx.cell? ⟨g3,3,none⟩=some (.slice eo ek ec)∧wx.cell? ⟨g3,4,none⟩=some (.int .i64 ef)))) (NV0:Hid (∀ wx,Ext V wx→NumV wx (.agg #[.int .i64 ai,.bool ab,.bool an,.slice ao ak ac,.int .i64 af]) aI aD)) (NV1:Hid (∀ wx,Ext V wx→NumV wx (.agg #[.int .i64 bi,.bool bb,.bool bn,.slice bo bk bc,.int .i64 bf]) bI bD)) (NV2:Hid (∀ wx,Ext V wx→NumV wx (.agg #[.int .i64 ci,.bool cb,.bool cn,.slice co ck cc,.int .i64 cf]) cI cD)) (NV3:Hid (∀ wx,Ext V wx→NumV wx (.agg #[.int .i64 ei,.bool eb,.bool en,.slice eo ek ec,.int .i64 ef]) eI eD)) (HTV:Hid (∀ wx,Ext V wx→Table wx)) (PR0:Hid (∀ u v w,NumV w u aI aD→NumV w v cI cD→Table w→Calls Tryz.prog 52 #[u,v] w fun e w'=>∃ r,e=.returned r∧NumV w' r q0I q0D∧Ext w w')) (PR1:Hid (∀ u v w,NumV w u aI aD→NumV w v eI eD→Table w→Calls Tryz.prog 52 #[u,v] w fun e w'=>∃ r,e=.returned r∧NumV w' r q1I q1D∧Ext w w')) (PR2:Hid (∀ u v w,NumV w u bI bD→NumV w v cI cD→Table w→Calls Tryz.prog 52 #[u,v] w fun e w'=>∃ r,e=.returned r∧NumV w' r q2I q2D∧Ext w w')) (PR3:Hid (∀ u v w,NumV w u bI bD→NumV w v eI eD→Table w→Calls Tryz.prog 52 #[u,v] w fun e w'=>∃ r,e=.returned r∧NumV w' r q3I q3D∧Ext w w')) (SP:Hid (∀ u v x y w,NumV w u q0I q0D→NumV w v q1I q1D→NumV w x q2I q2D→NumV w y q3I q3D→Table w→Calls Tryz.prog 51 #[u,v,x,y] w fun e w'=>∃ lo hi,e=.returned (.tuple #[lo,hi])∧NumV w' lo LI LD∧NumV w' hi HI HD∧Ext w w')) :
    Code.wp Tryz.prog refMul_r4_code (Exit.then K' Q') ⟨#[f0,f1,f2,f3,f4,.pointer (some ⟨g0,0,none⟩),.pointer (some ⟨g1,0,none⟩),.pointer (some ⟨g2,0,none⟩),.pointer (some ⟨g3,0,none⟩),f9,f10,f11,f12,f13,f14,f15,f16,f17,f18,f19,f20,f21,f22,f23,f24,f25,f26,f27,f28,f29,f30,f31,f32,f33,f34,f35,f36,f37,f38,f39,f40,f41,f42,f43,f44,f45,f46,f47,f48,f49,f50],[]⟩ V:=by
  conv=>arg 2;whnf
  refine wp_region_any (by kernel_rfl) ?_
  refine region_vars (V:=V) (fr:=fun t:Nat→Value=>(⟨#[f0,f1,f2,f3,f4,.pointer (some ⟨g0,0,none⟩),.pointer (some ⟨g1,0,none⟩),.pointer (some ⟨g2,0,none⟩),.pointer (some ⟨g3,0,none⟩),(t 9),(t 10),f11,f12,f13,f14,f15,f16,f17,f18,f19,f20,f21,f22,f23,f24,f25,f26,f27,f28,f29,f30,f31,(t 32),(t 33),(t 34),(t 35),(t 36),(t 37),(t 38),(t 39),(t 40),(t 41),(t 42),(t 43),(t 44),(t 45),(t 46),(t 47),f48,f49,f50],[]⟩:Act)) (m:=16) (n:=2) (dst:=fun j=>#[33,34,35,36,37,38,39,40,41,42,43,44,45,32,46,47].getD j 0) (vs:=fun k=>#[9,10].getD k 0) (src:=fun k=>#[46,47].getD k 0)
    (F:=fun j=>match j with | 0=>(fun v w=>NumV w v aI aD) | 1=>(fun v w=>NumV w v cI cD) | 2=>(fun v w=>NumV w v q0I q0D) | 3=>(fun v w=>NumV w v aI aD) | 4=>(fun v w=>NumV w v eI eD) | 5=>(fun v w=>NumV w v q1I q1D) | 6=>(fun v w=>NumV w v bI bD) | 7=>(fun v w=>NumV w v cI cD) | 8=>(fun v w=>NumV w v q2I q2D) | 9=>(fun v w=>NumV w v bI bD) | 10=>(fun v w=>NumV w v eI eD) | 11=>(fun v w=>NumV w v q3I q3D) | 12=>(fun v w=>∃ lo hi,v=.tuple #[lo,hi]∧NumV w lo LI LD∧NumV w hi HI HD) | 13=>(fun v w=>∃ lo hi,v=.tuple #[lo,hi]∧NumV w lo LI LD∧NumV w hi HI HD) | 14=>(fun v w=>NumV w v LI LD) | 15=>(fun v w=>NumV w v HI HD) | _=>fun _ _=>True) ?_ (fun s=>#[f0,f1,f2,f3,f4,.pointer (some ⟨g0,0,none⟩),.pointer (some ⟨g1,0,none⟩),.pointer (some ⟨g2,0,none⟩),.pointer (some ⟨g3,0,none⟩),f9,f10,f11,f12,f13,f14,f15,f16,f17,f18,f19,f20,f21,f22,f23,f24,f25,f26,f27,f28,f29,f30,f31,f32,f33,f34,f35,f36,f37,f38,f39,f40,f41,f42,f43,f44,f45,f46,f47,f48,f49,f50].getD s undef) (World.drew _) ((Below.refl _ _).drew) ?_
  · refine VRegion.mk (by kernel_rfl) (by kernel_rfl) (by decide) (by decide) (by decide) ?sd ?sa ?stays ?step ?alloc ?store ?isnum
    case sd =>
      intro k hk
      match k,hk with
      | 0,_=>exact ⟨14,by decide,rfl,by kernel_rfl⟩
      | 1,_=>exact ⟨15,by decide,rfl,by kernel_rfl⟩
    case sa =>
      intro k hk
      match k,hk with
      | 0,_=>show (_:Bool)=true;kernel_rfl
      | 1,_=>show (_:Bool)=true;kernel_rfl
    case stays =>
      intro j hj
      match j,hj with
      | 0,_=>exact Stays.num _ _
      | 1,_=>exact Stays.num _ _
      | 2,_=>exact Stays.num _ _
      | 3,_=>exact Stays.num _ _
      | 4,_=>exact Stays.num _ _
      | 5,_=>exact Stays.num _ _
      | 6,_=>exact Stays.num _ _
      | 7,_=>exact Stays.num _ _
      | 8,_=>exact Stays.num _ _
      | 9,_=>exact Stays.num _ _
      | 10,_=>exact Stays.num _ _
      | 11,_=>exact Stays.num _ _
      | 12,_=>exact Stays.pair _ _ _ _
      | 13,_=>exact Stays.pair _ _ _ _
      | 14,_=>exact Stays.num _ _
      | 15,_=>exact Stays.num _ _
      | k+16,h=>exact absurd h (by omega)
    case step =>
      intro j hj t w hE hd K hK
      match j,hj with
      | 0,_ =>
        obtain ⟨c0,c1,c2,c3,c4⟩:=HC0.out w hE
        refine wpOp_step rfl (fun K' hK'=>?_)
        go_simp
        exact hK' _ _ (hK (.agg #[.int .i64 ai,.bool ab,.bool an,.slice ao ak ac,.int .i64 af]) w (Ext.refl _) (NV0.out w hE))
      | 1,_ =>
        obtain ⟨c0,c1,c2,c3,c4⟩:=HC2.out w hE
        refine wpOp_step rfl (fun K' hK'=>?_)
        go_simp
        exact hK' _ _ (hK (.agg #[.int .i64 ci,.bool cb,.bool cn,.slice co ck cc,.int .i64 cf]) w (Ext.refl _) (NV2.out w hE))
      | 2,_ =>
        have d0:NumV w (t 33) aI aD:=hd 0 (by decide) (by kernel_rfl)
        have d1:NumV w (t 34) cI cD:=hd 1 (by decide) (by kernel_rfl)
        have hT:=HTV.out w hE
        clear hd
        refine wpOp_step rfl (fun K' hK'=>?_)
        go_simp
        go_wp2_with (go_at_call 52;(refine (PR0.out _ _ _ d0 d1 hT).mono ?_);rintro r wn ⟨v,rfl,hv,hE'⟩)
        first | exact hK v wn hE' hv | exact hK' _ _ (hK v wn hE' hv)
      | 3,_ =>
        obtain ⟨c0,c1,c2,c3,c4⟩:=HC0.out w hE
        refine wpOp_step rfl (fun K' hK'=>?_)
        go_simp
        exact hK' _ _ (hK (.agg #[.int .i64 ai,.bool ab,.bool an,.slice ao ak ac,.int .i64 af]) w (Ext.refl _) (NV0.out w hE))
      | 4,_ =>
        obtain ⟨c0,c1,c2,c3,c4⟩:=HC3.out w hE
        refine wpOp_step rfl (fun K' hK'=>?_)
        go_simp
        exact hK' _ _ (hK (.agg #[.int .i64 ei,.bool eb,.bool en,.slice eo ek ec,.int .i64 ef]) w (Ext.refl _) (NV3.out w hE))
      | 5,_ =>
        have d0:NumV w (t 36) aI aD:=hd 3 (by decide) (by kernel_rfl)
        have d1:NumV w (t 37) eI eD:=hd 4 (by decide) (by kernel_rfl)
        have hT:=HTV.out w hE
        clear hd
        refine wpOp_step rfl (fun K' hK'=>?_)
        go_simp
        go_wp2_with (go_at_call 52;(refine (PR1.out _ _ _ d0 d1 hT).mono ?_);rintro r wn ⟨v,rfl,hv,hE'⟩)
        first | exact hK v wn hE' hv | exact hK' _ _ (hK v wn hE' hv)
      | 6,_ =>
        obtain ⟨c0,c1,c2,c3,c4⟩:=HC1.out w hE
        refine wpOp_step rfl (fun K' hK'=>?_)
        go_simp
        exact hK' _ _ (hK (.agg #[.int .i64 bi,.bool bb,.bool bn,.slice bo bk bc,.int .i64 bf]) w (Ext.refl _) (NV1.out w hE))
      | 7,_ =>
        obtain ⟨c0,c1,c2,c3,c4⟩:=HC2.out w hE
        refine wpOp_step rfl (fun K' hK'=>?_)
        go_simp
        exact hK' _ _ (hK (.agg #[.int .i64 ci,.bool cb,.bool cn,.slice co ck cc,.int .i64 cf]) w (Ext.refl _) (NV2.out w hE))
      | 8,_ =>
        have d0:NumV w (t 39) bI bD:=hd 6 (by decide) (by kernel_rfl)
        have d1:NumV w (t 40) cI cD:=hd 7 (by decide) (by kernel_rfl)
        have hT:=HTV.out w hE
        clear hd
        refine wpOp_step rfl (fun K' hK'=>?_)
        go_simp
        go_wp2_with (go_at_call 52;(refine (PR2.out _ _ _ d0 d1 hT).mono ?_);rintro r wn ⟨v,rfl,hv,hE'⟩)
        first | exact hK v wn hE' hv | exact hK' _ _ (hK v wn hE' hv)
      | 9,_ =>
        obtain ⟨c0,c1,c2,c3,c4⟩:=HC1.out w hE
        refine wpOp_step rfl (fun K' hK'=>?_)
        go_simp
        exact hK' _ _ (hK (.agg #[.int .i64 bi,.bool bb,.bool bn,.slice bo bk bc,.int .i64 bf]) w (Ext.refl _) (NV1.out w hE))
      | 10,_ =>
        obtain ⟨c0,c1,c2,c3,c4⟩:=HC3.out w hE
        refine wpOp_step rfl (fun K' hK'=>?_)
        go_simp
        exact hK' _ _ (hK (.agg #[.int .i64 ei,.bool eb,.bool en,.slice eo ek ec,.int .i64 ef]) w (Ext.refl _) (NV3.out w hE))
      | 11,_ =>
        have d0:NumV w (t 42) bI bD:=hd 9 (by decide) (by kernel_rfl)
        have d1:NumV w (t 43) eI eD:=hd 10 (by decide) (by kernel_rfl)
        have hT:=HTV.out w hE
        clear hd
        refine wpOp_step rfl (fun K' hK'=>?_)
        go_simp
        go_wp2_with (go_at_call 52;(refine (PR3.out _ _ _ d0 d1 hT).mono ?_);rintro r wn ⟨v,rfl,hv,hE'⟩)
        first | exact hK v wn hE' hv | exact hK' _ _ (hK v wn hE' hv)
      | 12,_ =>
        have d0:NumV w (t 35) q0I q0D:=hd 2 (by decide) (by kernel_rfl)
        have d1:NumV w (t 38) q1I q1D:=hd 5 (by decide) (by kernel_rfl)
        have d2:NumV w (t 41) q2I q2D:=hd 8 (by decide) (by kernel_rfl)
        have d3:NumV w (t 44) q3I q3D:=hd 11 (by decide) (by kernel_rfl)
        have hT:=HTV.out w hE
        clear hd
        refine wpOp_step rfl (fun K' hK'=>?_)
        go_simp
        go_wp2_with (go_at_call 51;(refine (SP.out _ _ _ _ _ d0 d1 d2 d3 hT).mono ?_);rintro r wn ⟨lo,hi,rfl,hl,hh,hE'⟩)
        first | exact hK _ wn hE' ⟨lo,hi,rfl,hl,hh⟩ | exact hK' _ _ (hK _ wn hE' ⟨lo,hi,rfl,hl,hh⟩)
      | 13,_ =>
        have d1:∃ lo hi,t 45=.tuple #[lo,hi]∧NumV w lo LI LD∧NumV w hi HI HD:=hd 12 (by decide) (by kernel_rfl)
        obtain ⟨lo,hi,e,n1,n2⟩:=d1
        clear hd
        rw [upd_self e] at hK ⊢
        have e1:upd t 45 (.tuple #[lo,hi]) 45=.tuple #[lo,hi]:=rfl
        clear e
        refine wpOp_step rfl (fun K' hK'=>?_)
        go_simp
        exact hK' _ _ (hK (.tuple #[lo,hi]) w (Ext.refl _) ⟨lo,hi,rfl,n1,n2⟩)
      | 14,_ =>
        have d1:∃ lo hi,t 32=.tuple #[lo,hi]∧NumV w lo LI LD∧NumV w hi HI HD:=hd 13 (by decide) (by kernel_rfl)
        obtain ⟨lo,hi,e,n1,n2⟩:=d1
        clear hd
        rw [upd_self e] at hK ⊢
        have e1:upd t 32 (.tuple #[lo,hi]) 32=.tuple #[lo,hi]:=rfl
        clear e
        refine wpOp_step rfl (fun K' hK'=>?_)
        go_simp
        exact hK' _ _ (hK lo w (Ext.refl _) n1)
      | 15,_ =>
        have d1:∃ lo hi,t 32=.tuple #[lo,hi]∧NumV w lo LI LD∧NumV w hi HI HD:=hd 13 (by decide) (by kernel_rfl)
        obtain ⟨lo,hi,e,n1,n2⟩:=d1
        clear hd
        rw [upd_self e] at hK ⊢
        have e1:upd t 32 (.tuple #[lo,hi]) 32=.tuple #[lo,hi]:=rfl
        clear e
        refine wpOp_step rfl (fun K' hK'=>?_)
        go_simp
        exact hK' _ _ (hK hi w (Ext.refl _) n2)
      | k+16,h=>exact absurd h (by omega)
    case alloc =>
      intro k hk t w K hK
      match k,hk with
      | 0,_ =>
        refine wpOp_step rfl (fun K' hK'=>?_)
        go_simp
        exact hK' _ _ hK
      | 1,_ =>
        refine wpOp_step rfl (fun K' hK'=>?_)
        go_simp
        exact hK' _ _ hK
    case store =>
      intro k hk t w K g i bb nb ao N ca f hp hs hb hK
      obtain ⟨j0,b0,n0,o0,k0,c0,e0,hb⟩:=hb
      have z0:=hb.c0
      have z1:=hb.c1
      have z2:=hb.c2
      have z3:=hb.c3
      have z4:=hb.c4
      have y0:=hb.f 0
      have y1:=hb.f 1
      have y2:=hb.f 2
      have y3:=hb.f 3
      have y4:=hb.f 4
      match k,hk with
      | 0,_ =>
        have hp:t 9=.pointer (some ⟨g,0,none⟩):=hp
        have hs:t 46=.agg #[.int .i64 i,.bool bb,.bool nb,.slice ao N ca,.int .i64 f]:=hs
        rw [upd_self2 hp hs] at hK ⊢
        have e1:upd (upd t 9 (.pointer (some ⟨g,0,none⟩))) 46 (.agg #[.int .i64 i,.bool bb,.bool nb,.slice ao N ca,.int .i64 f]) 46=.agg #[.int .i64 i,.bool bb,.bool nb,.slice ao N ca,.int .i64 f]:=rfl
        have e2:upd (upd t 9 (.pointer (some ⟨g,0,none⟩))) 46 (.agg #[.int .i64 i,.bool bb,.bool nb,.slice ao N ca,.int .i64 f]) 9=.pointer (some ⟨g,0,none⟩):=rfl
        clear hp hs
        refine wpOp_step rfl (fun K' hK'=>?_)
        go_simp
        exact hK' _ _ hK
      | 1,_ =>
        have hp:t 10=.pointer (some ⟨g,0,none⟩):=hp
        have hs:t 47=.agg #[.int .i64 i,.bool bb,.bool nb,.slice ao N ca,.int .i64 f]:=hs
        rw [upd_self2 hp hs] at hK ⊢
        have e1:upd (upd t 10 (.pointer (some ⟨g,0,none⟩))) 47 (.agg #[.int .i64 i,.bool bb,.bool nb,.slice ao N ca,.int .i64 f]) 47=.agg #[.int .i64 i,.bool bb,.bool nb,.slice ao N ca,.int .i64 f]:=rfl
        have e2:upd (upd t 10 (.pointer (some ⟨g,0,none⟩))) 47 (.agg #[.int .i64 i,.bool bb,.bool nb,.slice ao N ca,.int .i64 f]) 10=.pointer (some ⟨g,0,none⟩):=rfl
        clear hp hs
        refine wpOp_step rfl (fun K' hK'=>?_)
        go_simp
        exact hK' _ _ hK
    case isnum =>
      intro k j hk hj e v w h
      match k,hk with
      | 0,_ =>
        have hall:∀ j,j<16→(#[46,47].getD 0 0)=(#[33,34,35,36,37,38,39,40,41,42,43,44,45,32,46,47].getD j 0)→j=14:=by decide
        obtain rfl:=hall j hj e
        obtain ⟨bb,nb,ao,N,ca,f,rfl,-⟩:=(show NumV w v _ _ from h)
        exact ⟨_,bb,nb,ao,N,ca,f,rfl⟩
      | 1,_ =>
        have hall:∀ j,j<16→(#[46,47].getD 1 0)=(#[33,34,35,36,37,38,39,40,41,42,43,44,45,32,46,47].getD j 0)→j=15:=by decide
        obtain rfl:=hall j hj e
        obtain ⟨bb,nb,ao,N,ca,f,rfl,-⟩:=(show NumV w v _ _ from h)
        exact ⟨_,bb,nb,ao,N,ca,f,rfl⟩
  · intro t g wx hE hF hg hne
    refine hK _ _ (Met.intro (hJ _ _ ?_))
    (repeat apply Exists.intro)
    refine ⟨?rel,rfl⟩
    exact ⟨g 0,g 1,t 46,t 47,(hg 0 (by decide)).1,(hg 1 (by decide)).1,⟨(hg 0 (by decide)).2.2,hF 14 (by decide)⟩,⟨(hg 1 (by decide)).2.2,hF 15 (by decide)⟩,hE⟩
open Go Go.RowKit
theorem numI_range (a:Nat) : -1≤numI a∧numI a≤1:=by
  unfold numI
  by_cases h:a=9218868437227405312
  · rw [if_pos h];omega
  · rw [if_neg h]
    by_cases h:a=18442240474082181120
    · rw [if_pos h];omega
    · rw [if_neg h];omega
def prodN (a c:Nat):Int × Dy:=(prodI (numI a) (numD a) (numI c) (numD c),prodD (numI a) (numD a) (numI c) (numD c))
def mulLo (a b c d:Nat):Int × Dy:=spanLo (prodN a c) (prodN a d) (prodN b c) (prodN b d)
def mulHi (a b c d:Nat):Int × Dy:=spanHi (prodN a c) (prodN a d) (prodN b c) (prodN b d)
set_option maxRecDepth 100000 in
set_option maxHeartbeats 16000000 in
theorem refMul_raw (a b c d:Nat) (g:Good a b) (g':Good c d) (w:World) (hT:Table w) :
    Calls Tryz.prog 16 #[.agg #[.int .u64 (a:Int),.int .u64 (b:Int)],.agg #[.int .u64 (c:Int),.int .u64 (d:Int)]] w fun e w'=>e=.returned (.agg #[.int .u64 ((rnN (mulLo a b c d).1 (mulLo a b c d).2 1:Nat):Int),.int .u64 ((rnN (mulHi a b c d).1 (mulHi a b c d).2 2:Nat):Int)])∧Ext w w':=by
  have C1:=Lib.hid (fun w=>refValid_any a b g.l1 g.l2 true g.valid w)
  have C2:=Lib.hid (fun w=>refValid_any c d g'.l1 g'.l2 true g'.valid w)
  have NA:=Lib.hid (fun w hT=>refNumOf_any a g.l1 _ _ rfl rfl w hT)
  have NB:=Lib.hid (fun w hT=>refNumOf_any b g.l2 _ _ rfl rfl w hT)
  have NC:=Lib.hid (fun w hT=>refNumOf_any c g'.l1 _ _ rfl rfl w hT)
  have ND:=Lib.hid (fun w hT=>refNumOf_any d g'.l2 _ _ rfl rfl w hT)
  have PR0:=Lib.hid (fun u v w hu hv hT=>refProduct_any u v (numI a) (numI c) (numD a) (numD c) (numI_range a) (numI_range c) w hu hv hT)
  have PR1:=Lib.hid (fun u v w hu hv hT=>refProduct_any u v (numI a) (numI d) (numD a) (numD d) (numI_range a) (numI_range d) w hu hv hT)
  have PR2:=Lib.hid (fun u v w hu hv hT=>refProduct_any u v (numI b) (numI c) (numD b) (numD c) (numI_range b) (numI_range c) w hu hv hT)
  have PR3:=Lib.hid (fun u v w hu hv hT=>refProduct_any u v (numI b) (numI d) (numD b) (numD d) (numI_range b) (numI_range d) w hu hv hT)
  have SP:=Lib.hid (fun u v x y w hu hv hx hy hT=>refSpan_any u v x y (prodN a c) (prodN a d) (prodN b c) (prodN b d) w hu hv hx hy hT)
  have OW:=Lib.hid (fun u v w hu hv hT=>refOutward_any u v (mulLo a b c d).1 (mulHi a b c d).1 (mulLo a b c d).2 (mulHi a b c d).2 w hu hv hT)
  unfold mulLo mulHi at OW
  unfold mulLo mulHi
  unfold prodN at SP OW ⊢
  generalize (spanLo (prodI (numI a) (numD a) (numI c) (numD c),prodD (numI a) (numD a) (numI c) (numD c)) (prodI (numI a) (numD a) (numI d) (numD d),prodD (numI a) (numD a) (numI d) (numD d)) (prodI (numI b) (numD b) (numI c) (numD c),prodD (numI b) (numD b) (numI c) (numD c)) (prodI (numI b) (numD b) (numI d) (numD d),prodD (numI b) (numD b) (numI d) (numD d))).1=LI at *
  generalize (spanLo (prodI (numI a) (numD a) (numI c) (numD c),prodD (numI a) (numD a) (numI c) (numD c)) (prodI (numI a) (numD a) (numI d) (numD d),prodD (numI a) (numD a) (numI d) (numD d)) (prodI (numI b) (numD b) (numI c) (numD c),prodD (numI b) (numD b) (numI c) (numD c)) (prodI (numI b) (numD b) (numI d) (numD d),prodD (numI b) (numD b) (numI d) (numD d))).2=LD at *
  generalize (spanHi (prodI (numI a) (numD a) (numI c) (numD c),prodD (numI a) (numD a) (numI c) (numD c)) (prodI (numI a) (numD a) (numI d) (numD d),prodD (numI a) (numD a) (numI d) (numD d)) (prodI (numI b) (numD b) (numI c) (numD c),prodD (numI b) (numD b) (numI c) (numD c)) (prodI (numI b) (numD b) (numI d) (numD d),prodD (numI b) (numD b) (numI d) (numD d))).1=HI at *
  generalize (spanHi (prodI (numI a) (numD a) (numI c) (numD c),prodD (numI a) (numD a) (numI c) (numD c)) (prodI (numI a) (numD a) (numI d) (numD d),prodD (numI a) (numD a) (numI d) (numD d)) (prodI (numI b) (numD b) (numI c) (numD c),prodD (numI b) (numD b) (numI c) (numD c)) (prodI (numI b) (numD b) (numI d) (numD d),prodD (numI b) (numD b) (numI d) (numD d))).2=HD at *
  obtain ⟨x,hx⟩:∃ x:Int,((rnN LI LD 1:Nat):Int)=x:=⟨_,rfl⟩
  obtain ⟨y,hy⟩:∃ y:Int,((rnN HI HD 2:Nat):Int)=y:=⟨_,rfl⟩
  rw [hx,hy] at OW
  rw [hx,hy]
  have HT:=Lib.hid hT
  clear hx hy g g' hT
  go_enter Tryz.func16,Tryz.ntmps16
  go_upto_region 1 with fail
  obtain ⟨W,hW,hB,hx,hy,hbx,hsz⟩:=ibox_three w a b c d 0 0
  rw [←hW]
  clear hW
  generalize hBe:w.heap.size=B at *
  have HBe:=Lib.hid hBe
  have HB:Hid (Below B w W):=Lib.hid (by rw [←hBe];exact hB)
  clear hBe hB
  have hBs:B+3≤W.heap.size:=hsz
  clear hsz
  have c0:=hx.c0
  have c1:=hx.c1
  have c2:=hy.c0
  have c3:=hy.c1
  go_wp2_with fail
  refine (C1.out _).mono ?_
  rintro r w1 ⟨rfl,hE⟩
  have hx:=hx.below hE
  have hy:=hy.below hE
  have hbx:=hbx.below hE
  have HB:=Lib.hid (HB.out.trans (Below.mono hE (by omega)))
  have hBs:B+3≤w1.heap.size:=by have:=Below.size hE;omega
  clear c0 c1 c2 c3 hE
  have c0:=hx.c0
  have c1:=hx.c1
  have c2:=hy.c0
  have c3:=hy.c1
  go_wp2_with fail
  refine (C2.out _).mono ?_
  rintro r V ⟨rfl,hE⟩
  have hx:=hx.below hE
  have hy:=hy.below hE
  have hbx:=hbx.below hE
  have HB:=Lib.hid (HB.out.trans (Below.mono hE (by omega)))
  have hBs:B+3≤V.heap.size:=by have:=Below.size hE;omega
  clear c0 c1 c2 c3 hE
  have HC:=Lib.hid (show ∀ wx,Ext V wx→((wx.cell? ⟨B,0,none⟩=some (.int .u64 (a:Int))∧wx.cell? ⟨B,1,none⟩=some (.int .u64 (b:Int)))∧(wx.cell? ⟨B+1,0,none⟩=some (.int .u64 (c:Int))∧wx.cell? ⟨B+1,1,none⟩=some (.int .u64 (d:Int))))∧IBox wx (B+1+1) 0 0 from fun wx h=>⟨⟨⟨(hx.below h).c0,(hx.below h).c1⟩,(hy.below h).c0,(hy.below h).c1⟩,hbx.below h⟩)
  have HTV:=Lib.hid (show ∀ wx,Ext V wx→Table wx from fun wx h=>(HT.out.below (Below.mono HB.out (Nat.le_of_eq HBe.out))).below h)
  clear hx hy hbx
  have c0:=(HC.out V (Ext.refl _)).1.1.1
  have c1:=(HC.out V (Ext.refl _)).1.1.2
  have c2:=(HC.out V (Ext.refl _)).1.2.1
  have c3:=(HC.out V (Ext.refl _)).1.2.2
  go_upto_region 3 with fail
  clear c0 c1 c2 c3
  have HC0:=Lib.hid (fun wx (h:Ext V wx)=>(HC.out wx h).1.1.1)
  have HC1:=Lib.hid (fun wx (h:Ext V wx)=>(HC.out wx h).1.1.2)
  have HC2:=Lib.hid (fun wx (h:Ext V wx)=>(HC.out wx h).1.2.1)
  have HC3:=Lib.hid (fun wx (h:Ext V wx)=>(HC.out wx h).1.2.2)
  rename_i K HK
  refine refMul_r3 (fun _ _ h=>h) (fun a' wc hM=>HK _ _ ?_) NA NB NC ND HTV HC0 HC1 HC2 HC3
  clear HK
  unfold Met at hM
  obtain ⟨u5,u6,u7,u8,u20,u21,u22,u23,u24,u25,u26,u27,u28,u29,u30,u31,u32,u33,u34,u35,u36,u37,u38,u39,u40,u41,u42,u43,u44,u45,u46,u47,u48,u49,u50,⟨g0,g1,g2,g3,v0,v1,v2,v3,rfl,rfl,rfl,rfl,⟨b0,m0,-⟩,⟨b1,m1,-⟩,⟨b2,m2,-⟩,⟨b3,m3,-⟩,-,st⟩,rfl⟩:=hM
  obtain ⟨ai,ab,an,ao,ak,ac,af,rfl,b0⟩:=b0
  obtain ⟨bi,bb,bn,bo,bk,bc,bf,rfl,b1⟩:=b1
  obtain ⟨ci,cb,cn,co,ck,cc,cf,rfl,b2⟩:=b2
  obtain ⟨ei,eb,en,eo,ek,ec,ef,rfl,b3⟩:=b3
  obtain ⟨U,hU⟩:∃ U,U=wc:=⟨_,rfl⟩
  subst hU
  clear HC0 HC1 HC2 HC3
  have HC0:=Lib.hid (fun wx (h:Ext U wx)=>(⟨(b0.ext h).c0,(b0.ext h).c1,(b0.ext h).c2,(b0.ext h).c3,(b0.ext h).c4⟩:_∧_∧_∧_∧_))
  have NV0:=Lib.hid (fun wx (h:Ext U wx)=>m0.ext h)
  have HC1:=Lib.hid (fun wx (h:Ext U wx)=>(⟨(b1.ext h).c0,(b1.ext h).c1,(b1.ext h).c2,(b1.ext h).c3,(b1.ext h).c4⟩:_∧_∧_∧_∧_))
  have NV1:=Lib.hid (fun wx (h:Ext U wx)=>m1.ext h)
  have HC2:=Lib.hid (fun wx (h:Ext U wx)=>(⟨(b2.ext h).c0,(b2.ext h).c1,(b2.ext h).c2,(b2.ext h).c3,(b2.ext h).c4⟩:_∧_∧_∧_∧_))
  have NV2:=Lib.hid (fun wx (h:Ext U wx)=>m2.ext h)
  have HC3:=Lib.hid (fun wx (h:Ext U wx)=>(⟨(b3.ext h).c0,(b3.ext h).c1,(b3.ext h).c2,(b3.ext h).c3,(b3.ext h).c4⟩:_∧_∧_∧_∧_))
  have NV3:=Lib.hid (fun wx (h:Ext U wx)=>m3.ext h)
  have HTU:=Lib.hid (fun wx (h:Ext U wx)=>HTV.out wx (Ext.trans st h))
  have HST:=Lib.hid st
  clear b0 b1 b2 b3 m0 m1 m2 m3 st
  go_upto_region 4 with fail
  rename_i K HK
  refine refMul_r4 (fun _ _ h=>h) (fun a' wc hM=>HK _ _ ?_) HC0 HC1 HC2 HC3 NV0 NV1 NV2 NV3 HTU PR0 PR1 PR2 PR3 SP
  clear HK
  unfold Met at hM
  obtain ⟨u9,u10,u32,u33,u34,u35,u36,u37,u38,u39,u40,u41,u42,u43,u44,u45,u46,u47,u48,u49,u50,⟨h0,h1,v0,v1,rfl,rfl,⟨b0,n0⟩,⟨b1,n1⟩,st⟩,rfl⟩:=hM
  obtain ⟨li,lb,ln,lo,lk,lc,lf,rfl,b0⟩:=b0
  obtain ⟨mi,mb,mn,mo,mk,mc,mf,rfl,b1⟩:=b1
  have c0:=b0.c0
  have c1:=b0.c1
  have c2:=b0.c2
  have c3:=b0.c3
  have c4:=b0.c4
  have d0:=b1.c0
  have d1:=b1.c1
  have d2:=b1.c2
  have d3:=b1.c3
  have d4:=b1.c4
  have OW1:=Lib.hid (OW.out _ _ _ n0 n1 (HTU.out _ st))
  clear n0 n1 b0 b1
  go_wp2_with fail
  refine OW1.out.mono ?_
  rintro r wd ⟨rfl,hE⟩
  have std:Ext V wd:=Ext.trans HST.out (Ext.trans st hE)
  clear c0 c1 c2 c3 c4 d0 d1 d2 d3 d4 st hE
  obtain ⟨-,bz⟩:=HC.out wd std
  have z0:=bz.c0
  have z1:=bz.c1
  have z2:=bz.f 0
  have z3:=bz.f 1
  have hst:=bz.stored x y
  have y0:=hst.c0
  have y1:=hst.c1
  have HF:=Lib.hid ((HB.out.trans (Below.mono std (by omega))).trans ((only_iset2 wd (B+1+1) (.int .u64 x) (.int .u64 y)).below (by omega)))
  clear hst
  go_wp2
  refine bodyPost_ret (v:=.agg #[.int .u64 x,.int .u64 y]) (by simp [results,Tryz.results16,go_sem,y0,y1]) rfl ⟨rfl,?_⟩
  show Below _ _ _
  rw [HBe.out]
  exact HF.out
end Go.Proofs.YtkomhemjodbkpaaGreatDoor
