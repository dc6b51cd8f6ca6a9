import Derived.Test.YtkomhemjodbkpaaGreatDoorIExLawU44
import Derived.Test.YtkomhemjodbkpaaGreatDoorIExLawU31
import Derived.Test.YtkomhemjodbkpaaGreatDoorIExLawU28
import Derived.Test.YtkomhemjodbkpaaGreatDoorIExLawU8
namespace Go.Proofs.YtkomhemjodbkpaaGreatDoor
open Go Go.RowKit
noncomputable def refDiv_r8_code:Code:=((Tryz.f18.body.bind (regOf 8)).getD .skip)
set_option maxRecDepth 100000 in
set_option maxHeartbeats 20000000 in
theorem refDiv_r8 {f0 f1 f2 f3 f4 f11 f12 f13 f14 f15 f16 f17 f18 f19 f20 f21 f22 f23 f24 f25 f26 f27 f28 f29 f30 f31 f32 f33 f34 f35 f36 f37 f38 f39 f40 f41 f42 f43 f44 f45 f46 f47 f48 f49 f50 f51 f52 f53 f54 f55 f56 f57 f58 f59 f60 f61 f62 f63 f64 f65 f66 f67 f68 f69 f70 f71 f72 f73 f74 f75 f76 f77 f78 f79 f80 f81 f82 f83 f84:Value} {L:World→Prop} {J:Act→World→Prop} {Q':Exit→Act→World→Prop} {a b c d G H g0 g1 g2 g3:Nat} {V:World}
    (hJ:∀ (a':Act) (wx:World),(∃ u49 u50 u51 u52 u53 u54 u55 u56 u57 u58 u59 u60 u61 u62 u63 u64 u65 u66 u67 u68 u69 u70 u71 u72 u73 u74 u75 u76 u77 u78 u79 u80 u81 u82 u83 u84:Value,(∃ v0 v1 v2 v3,(NBv wx g0 v0∧NumV wx v0 (numI a) (numD a))∧(NBv wx g1 v1∧NumV wx v1 (numI b) (numD b))∧(NBv wx g2 v2∧NumV wx v2 (numI c) (numD c))∧(NBv wx g3 v3∧NumV wx v3 (numI d) (numD d))∧L wx)∧a'=⟨#[f0,f1,f2,f3,f4,.pointer (some ⟨g0,0,none⟩),.pointer (some ⟨g1,0,none⟩),.pointer (some ⟨g2,0,none⟩),.pointer (some ⟨g3,0,none⟩),.pointer (some ⟨G,0,none⟩),.pointer (some ⟨H,0,none⟩),f11,f12,f13,f14,f15,f16,f17,f18,f19,f20,f21,f22,f23,f24,f25,f26,f27,f28,f29,f30,f31,f32,f33,f34,f35,f36,f37,f38,f39,f40,f41,f42,f43,f44,f45,f46,f47,f48,u49,u50,u51,u52,u53,u54,u55,u56,u57,u58,u59,u60,u61,u62,u63,u64,u65,u66,u67,u68,u69,u70,u71,u72,u73,u74,u75,u76,u77,u78,u79,u80,u81,u82,u83,u84],[]⟩)→J a' wx) (hLE:∀ w w',L w→Ext w w'→L w') (hLK0:∀ w w',L w→NBa w g0→Only g0 w w'→L w') (hLK1:∀ w w',L w→NBa w g1→Only g1 w w'→L w') (hLK2:∀ w w',L w→NBa w g2→Only g2 w w'→L w') (hLK3:∀ w w',L w→NBa w g3→Only g3 w w'→L w') (hV:L V) (hb0:NBa V g0) (hb1:NBa V g1) (hb2:NBa V g2) (hb3:NBa V g3) (hne01:g0≠g1) (hne02:g0≠g2) (hne03:g0≠g3) (hne12:g1≠g2) (hne13:g1≠g3) (hne23:g2≠g3) (NA:Hid (∀ w,Table w→Calls Tryz.prog 48 #[.int .u64 (a:Int)] w fun e w'=>∃ v,e=.returned v∧NumV w' v (numI a) (numD a)∧Ext w w')) (NB:Hid (∀ w,Table w→Calls Tryz.prog 48 #[.int .u64 (b:Int)] w fun e w'=>∃ v,e=.returned v∧NumV w' v (numI b) (numD b)∧Ext w w')) (NC:Hid (∀ w,Table w→Calls Tryz.prog 48 #[.int .u64 (c:Int)] w fun e w'=>∃ v,e=.returned v∧NumV w' v (numI c) (numD c)∧Ext w w')) (ND:Hid (∀ w,Table w→Calls Tryz.prog 48 #[.int .u64 (d:Int)] w fun e w'=>∃ v,e=.returned v∧NumV w' v (numI d) (numD d)∧Ext w w')) (HTV:Hid (∀ wx,L wx→Table wx)) (HC0:Hid (∀ wx,L wx→wx.cell? ⟨G,0,none⟩=some (.int .u64 (a:Int)))) (HC1:Hid (∀ wx,L wx→wx.cell? ⟨G,1,none⟩=some (.int .u64 (b:Int)))) (HC2:Hid (∀ wx,L wx→wx.cell? ⟨H,0,none⟩=some (.int .u64 (c:Int)))) (HC3:Hid (∀ wx,L wx→wx.cell? ⟨H,1,none⟩=some (.int .u64 (d:Int)))) :
    Code.wp Tryz.prog refDiv_r8_code (Exit.then J Q') ⟨#[f0,f1,f2,f3,f4,.pointer (some ⟨g0,0,none⟩),.pointer (some ⟨g1,0,none⟩),.pointer (some ⟨g2,0,none⟩),.pointer (some ⟨g3,0,none⟩),.pointer (some ⟨G,0,none⟩),.pointer (some ⟨H,0,none⟩),f11,f12,f13,f14,f15,f16,f17,f18,f19,f20,f21,f22,f23,f24,f25,f26,f27,f28,f29,f30,f31,f32,f33,f34,f35,f36,f37,f38,f39,f40,f41,f42,f43,f44,f45,f46,f47,f48,f49,f50,f51,f52,f53,f54,f55,f56,f57,f58,f59,f60,f61,f62,f63,f64,f65,f66,f67,f68,f69,f70,f71,f72,f73,f74,f75,f76,f77,f78,f79,f80,f81,f82,f83,f84],[]⟩ V:=by
  conv=>arg 2;whnf
  refine wp_region_any (by kernel_rfl) ?_
  refine region_sets (L:=L) (fr:=fun t:Nat→Value=>(⟨#[f0,f1,f2,f3,f4,.pointer (some ⟨g0,0,none⟩),.pointer (some ⟨g1,0,none⟩),.pointer (some ⟨g2,0,none⟩),.pointer (some ⟨g3,0,none⟩),.pointer (some ⟨G,0,none⟩),.pointer (some ⟨H,0,none⟩),f11,f12,f13,f14,f15,f16,f17,f18,f19,f20,f21,f22,f23,f24,f25,f26,f27,f28,f29,f30,f31,f32,f33,f34,f35,f36,f37,f38,f39,f40,f41,f42,f43,f44,f45,f46,f47,f48,(t 49),(t 50),(t 51),(t 52),(t 53),(t 54),(t 55),(t 56),(t 57),(t 58),(t 59),(t 60),f61,f62,f63,f64,f65,f66,f67,f68,f69,f70,f71,f72,f73,f74,f75,f76,f77,f78,f79,f80,f81,f82,f83,f84],[]⟩:Act)) (m:=12) (n:=4) (dst:=fun j=>#[49,50,51,52,53,54,55,56,57,58,59,60].getD j 0) (src:=fun k=>#[51,54,57,60].getD k 0) (g:=fun k=>#[g0,g1,g2,g3].getD k 0)
    (F:=fun j=>match j with | 0=>(fun v _=>v=.pointer (some ⟨G,0,none⟩)) | 1=>(fun v _=>v=.int .u64 (a:Int)) | 2=>(fun v w=>NumV w v (numI a) (numD a)) | 3=>(fun v _=>v=.pointer (some ⟨G,1,none⟩)) | 4=>(fun v _=>v=.int .u64 (b:Int)) | 5=>(fun v w=>NumV w v (numI b) (numD b)) | 6=>(fun v _=>v=.pointer (some ⟨H,0,none⟩)) | 7=>(fun v _=>v=.int .u64 (c:Int)) | 8=>(fun v w=>NumV w v (numI c) (numD c)) | 9=>(fun v _=>v=.pointer (some ⟨H,1,none⟩)) | 10=>(fun v _=>v=.int .u64 (d:Int)) | 11=>(fun v w=>NumV w v (numI d) (numD d)) | _=>fun _ _=>True) ?_ (fun s=>#[f0,f1,f2,f3,f4,.pointer (some ⟨g0,0,none⟩),.pointer (some ⟨g1,0,none⟩),.pointer (some ⟨g2,0,none⟩),.pointer (some ⟨g3,0,none⟩),.pointer (some ⟨G,0,none⟩),.pointer (some ⟨H,0,none⟩),f11,f12,f13,f14,f15,f16,f17,f18,f19,f20,f21,f22,f23,f24,f25,f26,f27,f28,f29,f30,f31,f32,f33,f34,f35,f36,f37,f38,f39,f40,f41,f42,f43,f44,f45,f46,f47,f48,f49,f50,f51,f52,f53,f54,f55,f56,f57,f58,f59,f60,f61,f62,f63,f64,f65,f66,f67,f68,f69,f70,f71,f72,f73,f74,f75,f76,f77,f78,f79,f80,f81,f82,f83,f84].getD s undef) (World.drew _) (hLE _ _ hV ((Below.refl _ _).drew)) ?_ ?_
  · refine TRegion.mk (by kernel_rfl) (by kernel_rfl) (by decide) ?gg ?sd ?keep hLE ?stays ?step ?store ?isnum
    case gg =>
      intro k hk l hl e
      match k,l,hk,hl with
      | 0,0,_,_=>rfl
      | 0,1,_,_=>exact absurd (show g0=g1 from e) hne01
      | 0,2,_,_=>exact absurd (show g0=g2 from e) hne02
      | 0,3,_,_=>exact absurd (show g0=g3 from e) hne03
      | 1,0,_,_=>exact absurd (show g1=g0 from e) (Ne.symm hne01)
      | 1,1,_,_=>rfl
      | 1,2,_,_=>exact absurd (show g1=g2 from e) hne12
      | 1,3,_,_=>exact absurd (show g1=g3 from e) hne13
      | 2,0,_,_=>exact absurd (show g2=g0 from e) (Ne.symm hne02)
      | 2,1,_,_=>exact absurd (show g2=g1 from e) (Ne.symm hne12)
      | 2,2,_,_=>rfl
      | 2,3,_,_=>exact absurd (show g2=g3 from e) hne23
      | 3,0,_,_=>exact absurd (show g3=g0 from e) (Ne.symm hne03)
      | 3,1,_,_=>exact absurd (show g3=g1 from e) (Ne.symm hne13)
      | 3,2,_,_=>exact absurd (show g3=g2 from e) (Ne.symm hne23)
      | 3,3,_,_=>rfl
    case sd =>
      intro k hk
      match k,hk with
      | 0,_=>exact ⟨2,by decide,rfl,by kernel_rfl⟩
      | 1,_=>exact ⟨5,by decide,rfl,by kernel_rfl⟩
      | 2,_=>exact ⟨8,by decide,rfl,by kernel_rfl⟩
      | 3,_=>exact ⟨11,by decide,rfl,by kernel_rfl⟩
    case keep =>
      intro k hk w w' hL hb ho
      match k,hk with
      | 0,_=>exact hLK0 w w' hL (show NBa w g0 from hb) (show Only g0 w w' from ho)
      | 1,_=>exact hLK1 w w' hL (show NBa w g1 from hb) (show Only g1 w w' from ho)
      | 2,_=>exact hLK2 w w' hL (show NBa w g2 from hb) (show Only g2 w w' from ho)
      | 3,_=>exact hLK3 w w' hL (show NBa w g3 from hb) (show Only g3 w w' from ho)
    case stays =>
      intro j hj
      match j,hj with
      | 0,_=>exact Stays.eq _
      | 1,_=>exact Stays.eq _
      | 2,_=>exact Stays.num _ _
      | 3,_=>exact Stays.eq _
      | 4,_=>exact Stays.eq _
      | 5,_=>exact Stays.num _ _
      | 6,_=>exact Stays.eq _
      | 7,_=>exact Stays.eq _
      | 8,_=>exact Stays.num _ _
      | 9,_=>exact Stays.eq _
      | 10,_=>exact Stays.eq _
      | 11,_=>exact Stays.num _ _
    case step =>
      intro j hj t w hE hd K hK
      match j,hj with
      | 0,_ =>
        refine wpOp_step rfl (fun K' hK'=>?_)
        go_simp
        exact hK' _ _ (hK (.pointer (some ⟨G,0,none⟩)) w (Ext.refl _) rfl)
      | 1,_ =>
        have d1:t 49=.pointer (some ⟨G,0,none⟩):=hd 0 (by decide) (by kernel_rfl)
        have c1:=HC0.out w hE
        rw [upd_self d1] at hK ⊢
        have e1:upd t 49 (.pointer (some ⟨G,0,none⟩)) 49=.pointer (some ⟨G,0,none⟩):=rfl
        clear hd d1
        refine wpOp_step rfl (fun K' hK'=>?_)
        go_simp
        exact hK' _ _ (hK (.int .u64 (a:Int)) w (Ext.refl _) rfl)
      | 2,_ =>
        have d1:t 50=.int .u64 (a:Int):=hd 1 (by decide) (by kernel_rfl)
        have hT:=HTV.out w hE
        rw [upd_self d1] at hK ⊢
        have e1:upd t 50 (.int .u64 (a:Int)) 50=.int .u64 (a:Int):=rfl
        clear hd d1
        refine wpOp_step rfl (fun K' hK'=>?_)
        go_simp
        go_wp2_with (go_at_call 48;(with_reducible refine (NA.out _ hT).mono ?_);rintro r wn ⟨v,rfl,hv,hE'⟩)
        first | exact hK v wn hE' hv | exact hK' _ _ (hK v wn hE' hv)
      | 3,_ =>
        refine wpOp_step rfl (fun K' hK'=>?_)
        go_simp
        exact hK' _ _ (hK (.pointer (some ⟨G,1,none⟩)) w (Ext.refl _) rfl)
      | 4,_ =>
        have d1:t 52=.pointer (some ⟨G,1,none⟩):=hd 3 (by decide) (by kernel_rfl)
        have c1:=HC1.out w hE
        rw [upd_self d1] at hK ⊢
        have e1:upd t 52 (.pointer (some ⟨G,1,none⟩)) 52=.pointer (some ⟨G,1,none⟩):=rfl
        clear hd d1
        refine wpOp_step rfl (fun K' hK'=>?_)
        go_simp
        exact hK' _ _ (hK (.int .u64 (b:Int)) w (Ext.refl _) rfl)
      | 5,_ =>
        have d1:t 53=.int .u64 (b:Int):=hd 4 (by decide) (by kernel_rfl)
        have hT:=HTV.out w hE
        rw [upd_self d1] at hK ⊢
        have e1:upd t 53 (.int .u64 (b:Int)) 53=.int .u64 (b:Int):=rfl
        clear hd d1
        refine wpOp_step rfl (fun K' hK'=>?_)
        go_simp
        go_wp2_with (go_at_call 48;(with_reducible refine (NB.out _ hT).mono ?_);rintro r wn ⟨v,rfl,hv,hE'⟩)
        first | exact hK v wn hE' hv | exact hK' _ _ (hK v wn hE' hv)
      | 6,_ =>
        refine wpOp_step rfl (fun K' hK'=>?_)
        go_simp
        exact hK' _ _ (hK (.pointer (some ⟨H,0,none⟩)) w (Ext.refl _) rfl)
      | 7,_ =>
        have d1:t 55=.pointer (some ⟨H,0,none⟩):=hd 6 (by decide) (by kernel_rfl)
        have c1:=HC2.out w hE
        rw [upd_self d1] at hK ⊢
        have e1:upd t 55 (.pointer (some ⟨H,0,none⟩)) 55=.pointer (some ⟨H,0,none⟩):=rfl
        clear hd d1
        refine wpOp_step rfl (fun K' hK'=>?_)
        go_simp
        exact hK' _ _ (hK (.int .u64 (c:Int)) w (Ext.refl _) rfl)
      | 8,_ =>
        have d1:t 56=.int .u64 (c:Int):=hd 7 (by decide) (by kernel_rfl)
        have hT:=HTV.out w hE
        rw [upd_self d1] at hK ⊢
        have e1:upd t 56 (.int .u64 (c:Int)) 56=.int .u64 (c:Int):=rfl
        clear hd d1
        refine wpOp_step rfl (fun K' hK'=>?_)
        go_simp
        go_wp2_with (go_at_call 48;(with_reducible refine (NC.out _ hT).mono ?_);rintro r wn ⟨v,rfl,hv,hE'⟩)
        first | exact hK v wn hE' hv | exact hK' _ _ (hK v wn hE' hv)
      | 9,_ =>
        refine wpOp_step rfl (fun K' hK'=>?_)
        go_simp
        exact hK' _ _ (hK (.pointer (some ⟨H,1,none⟩)) w (Ext.refl _) rfl)
      | 10,_ =>
        have d1:t 58=.pointer (some ⟨H,1,none⟩):=hd 9 (by decide) (by kernel_rfl)
        have c1:=HC3.out w hE
        rw [upd_self d1] at hK ⊢
        have e1:upd t 58 (.pointer (some ⟨H,1,none⟩)) 58=.pointer (some ⟨H,1,none⟩):=rfl
        clear hd d1
        refine wpOp_step rfl (fun K' hK'=>?_)
        go_simp
        exact hK' _ _ (hK (.int .u64 (d:Int)) w (Ext.refl _) rfl)
      | 11,_ =>
        have d1:t 59=.int .u64 (d:Int):=hd 10 (by decide) (by kernel_rfl)
        have hT:=HTV.out w hE
        rw [upd_self d1] at hK ⊢
        have e1:upd t 59 (.int .u64 (d:Int)) 59=.int .u64 (d:Int):=rfl
        clear hd d1
        refine wpOp_step rfl (fun K' hK'=>?_)
        go_simp
        go_wp2_with (go_at_call 48;(with_reducible refine (ND.out _ hT).mono ?_);rintro r wn ⟨v,rfl,hv,hE'⟩)
        first | exact hK v wn hE' hv | exact hK' _ _ (hK v wn hE' hv)
    case store =>
      intro k hk t w K i bb nb ao N ca f hs hb hK
      match k,hk with
      | 0,_ =>
        have hK:K _ (((((w.setCell ⟨g0,0,none⟩ (.int .i64 i)).setCell ⟨g0,1,none⟩ (.bool bb)).setCell ⟨g0,2,none⟩ (.bool nb)).setCell ⟨g0,3,none⟩ (.slice ao N ca)).setCell ⟨g0,4,none⟩ (.int .i64 f)):=hK
        have hs:t 51=.agg #[.int .i64 i,.bool bb,.bool nb,.slice ao N ca,.int .i64 f]:=hs
        obtain ⟨j0,b0,n0,o0,k0,c0,e0,hb⟩:=(show NBa w g0 from hb)
        have z0:=hb.c0
        have z1:=hb.c1
        have z2:=hb.c2
        have z3:=hb.c3
        have z4:=hb.c4
        have y0:=hb.f 0
        have y1:=hb.f 1
        have y2:=hb.f 2
        have y3:=hb.f 3
        have y4:=hb.f 4
        rw [upd_self hs] at hK ⊢
        have e1:upd t 51 (.agg #[.int .i64 i,.bool bb,.bool nb,.slice ao N ca,.int .i64 f]) 51=.agg #[.int .i64 i,.bool bb,.bool nb,.slice ao N ca,.int .i64 f]:=rfl
        clear hs
        refine wpOp_step rfl (fun K' hK'=>?_)
        go_simp
        exact hK' _ _ hK
      | 1,_ =>
        have hK:K _ (((((w.setCell ⟨g1,0,none⟩ (.int .i64 i)).setCell ⟨g1,1,none⟩ (.bool bb)).setCell ⟨g1,2,none⟩ (.bool nb)).setCell ⟨g1,3,none⟩ (.slice ao N ca)).setCell ⟨g1,4,none⟩ (.int .i64 f)):=hK
        have hs:t 54=.agg #[.int .i64 i,.bool bb,.bool nb,.slice ao N ca,.int .i64 f]:=hs
        obtain ⟨j0,b0,n0,o0,k0,c0,e0,hb⟩:=(show NBa w g1 from hb)
        have z0:=hb.c0
        have z1:=hb.c1
        have z2:=hb.c2
        have z3:=hb.c3
        have z4:=hb.c4
        have y0:=hb.f 0
        have y1:=hb.f 1
        have y2:=hb.f 2
        have y3:=hb.f 3
        have y4:=hb.f 4
        rw [upd_self hs] at hK ⊢
        have e1:upd t 54 (.agg #[.int .i64 i,.bool bb,.bool nb,.slice ao N ca,.int .i64 f]) 54=.agg #[.int .i64 i,.bool bb,.bool nb,.slice ao N ca,.int .i64 f]:=rfl
        clear hs
        refine wpOp_step rfl (fun K' hK'=>?_)
        go_simp
        exact hK' _ _ hK
      | 2,_ =>
        have hK:K _ (((((w.setCell ⟨g2,0,none⟩ (.int .i64 i)).setCell ⟨g2,1,none⟩ (.bool bb)).setCell ⟨g2,2,none⟩ (.bool nb)).setCell ⟨g2,3,none⟩ (.slice ao N ca)).setCell ⟨g2,4,none⟩ (.int .i64 f)):=hK
        have hs:t 57=.agg #[.int .i64 i,.bool bb,.bool nb,.slice ao N ca,.int .i64 f]:=hs
        obtain ⟨j0,b0,n0,o0,k0,c0,e0,hb⟩:=(show NBa w g2 from hb)
        have z0:=hb.c0
        have z1:=hb.c1
        have z2:=hb.c2
        have z3:=hb.c3
        have z4:=hb.c4
        have y0:=hb.f 0
        have y1:=hb.f 1
        have y2:=hb.f 2
        have y3:=hb.f 3
        have y4:=hb.f 4
        rw [upd_self hs] at hK ⊢
        have e1:upd t 57 (.agg #[.int .i64 i,.bool bb,.bool nb,.slice ao N ca,.int .i64 f]) 57=.agg #[.int .i64 i,.bool bb,.bool nb,.slice ao N ca,.int .i64 f]:=rfl
        clear hs
        refine wpOp_step rfl (fun K' hK'=>?_)
        go_simp
        exact hK' _ _ hK
      | 3,_ =>
        have hK:K _ (((((w.setCell ⟨g3,0,none⟩ (.int .i64 i)).setCell ⟨g3,1,none⟩ (.bool bb)).setCell ⟨g3,2,none⟩ (.bool nb)).setCell ⟨g3,3,none⟩ (.slice ao N ca)).setCell ⟨g3,4,none⟩ (.int .i64 f)):=hK
        have hs:t 60=.agg #[.int .i64 i,.bool bb,.bool nb,.slice ao N ca,.int .i64 f]:=hs
        obtain ⟨j0,b0,n0,o0,k0,c0,e0,hb⟩:=(show NBa w g3 from hb)
        have z0:=hb.c0
        have z1:=hb.c1
        have z2:=hb.c2
        have z3:=hb.c3
        have z4:=hb.c4
        have y0:=hb.f 0
        have y1:=hb.f 1
        have y2:=hb.f 2
        have y3:=hb.f 3
        have y4:=hb.f 4
        rw [upd_self hs] at hK ⊢
        have e1:upd t 60 (.agg #[.int .i64 i,.bool bb,.bool nb,.slice ao N ca,.int .i64 f]) 60=.agg #[.int .i64 i,.bool bb,.bool nb,.slice ao N ca,.int .i64 f]:=rfl
        clear hs
        refine wpOp_step rfl (fun K' hK'=>?_)
        go_simp
        exact hK' _ _ hK
    case isnum =>
      intro k j hk hj e v w h
      match k,hk with
      | 0,_ =>
        have hall:∀ j,j<12→(#[51,54,57,60].getD 0 0)=(#[49,50,51,52,53,54,55,56,57,58,59,60].getD j 0)→j=2:=by decide
        obtain rfl:=hall j hj e
        obtain ⟨bb,nb,ao,N,ca,f,rfl,-⟩:=(show NumV w v _ _ from h)
        exact ⟨_,bb,nb,ao,N,ca,f,rfl⟩
      | 1,_ =>
        have hall:∀ j,j<12→(#[51,54,57,60].getD 1 0)=(#[49,50,51,52,53,54,55,56,57,58,59,60].getD j 0)→j=5:=by decide
        obtain rfl:=hall j hj e
        obtain ⟨bb,nb,ao,N,ca,f,rfl,-⟩:=(show NumV w v _ _ from h)
        exact ⟨_,bb,nb,ao,N,ca,f,rfl⟩
      | 2,_ =>
        have hall:∀ j,j<12→(#[51,54,57,60].getD 2 0)=(#[49,50,51,52,53,54,55,56,57,58,59,60].getD j 0)→j=8:=by decide
        obtain rfl:=hall j hj e
        obtain ⟨bb,nb,ao,N,ca,f,rfl,-⟩:=(show NumV w v _ _ from h)
        exact ⟨_,bb,nb,ao,N,ca,f,rfl⟩
      | 3,_ =>
        have hall:∀ j,j<12→(#[51,54,57,60].getD 3 0)=(#[49,50,51,52,53,54,55,56,57,58,59,60].getD j 0)→j=11:=by decide
        obtain rfl:=hall j hj e
        obtain ⟨bb,nb,ao,N,ca,f,rfl,-⟩:=(show NumV w v _ _ from h)
        exact ⟨_,bb,nb,ao,N,ca,f,rfl⟩
  · intro k hk
    have dr:Ext V V.drew:=(Below.refl _ _).drew
    match k,hk with
    | 0,_=>exact (show NBa V g0 from hb0).ext dr
    | 1,_=>exact (show NBa V g1 from hb1).ext dr
    | 2,_=>exact (show NBa V g2 from hb2).ext dr
    | 3,_=>exact (show NBa V g3 from hb3).ext dr
  · intro t wx hL hF hg
    refine hJ _ _ ?_
    (repeat apply Exists.intro)
    refine ⟨?rel,rfl⟩
    exact ⟨t 51,t 54,t 57,t 60,⟨hg 0 (by decide),hF 2 (by decide)⟩,⟨hg 1 (by decide),hF 5 (by decide)⟩,⟨hg 2 (by decide),hF 8 (by decide)⟩,⟨hg 3 (by decide),hF 11 (by decide)⟩,hL⟩
open Go Go.RowKit
def IBa (w:World) (g:Nat):Prop:=∃ x y,IBox w g x y
def IBv (w:World) (g:Nat) (v:Value):Prop:=∃ x y,v=.agg #[.int .u64 x,.int .u64 y]∧IBox w g x y
theorem IBa.lt {w:World} {g:Nat} (h:IBa w g):g<w.heap.size:=by
  obtain ⟨x,y,h⟩:=h
  exact h.lt
theorem IBa.ext {w w':World} {g:Nat} (h:IBa w g) (hE:Ext w w'):IBa w' g:=by
  obtain ⟨x,y,h⟩:=h
  exact ⟨x,y,h.below hE⟩
theorem IBa.only {w w':World} {g k:Nat} (h:IBa w g) (ho:Only k w w') (hne:g≠k):IBa w' g:=by
  obtain ⟨x,y,h⟩:=h
  exact ⟨x,y,h.only ho hne⟩
theorem IBv.ext {w w':World} {g:Nat} {v:Value} (h:IBv w g v) (hE:Ext w w'):IBv w' g v:=by
  obtain ⟨x,y,e,h⟩:=h
  exact ⟨x,y,e,h.below hE⟩
theorem IBv.only {w w':World} {g k:Nat} {v:Value} (h:IBv w g v) (ho:Only k w w') (hne:g≠k):IBv w' g v:=by
  obtain ⟨x,y,e,h⟩:=h
  exact ⟨x,y,e,h.only ho hne⟩
structure IStays (F:Value→World→Prop):Prop where
  ext:∀ v w w',F v w→Ext w w'→F v w'
  only:∀ v w w' g,F v w→IBa w g→Only g w w'→F v w'
theorem IStays.eq (u:Value):IStays (fun v _=>v=u):=⟨fun _ _ _ h _=>h,fun _ _ _ _ h _ _=>h⟩
structure IRegion (P:Program) (ops:Array Oper) (Q:Exit→Act→World→Prop) (V:World) (fr:(Nat→Value)→Act) (m n:Nat) (dst vs src:Nat→Nat) (F:Nat→Value→World→Prop):Prop where
  size:ops.size=m+n+n
  ord:Region.ordered .any ops=true
  dd:∀ i,i<m→∀ j,j<m→dst i=dst j→i=j
  dv:∀ i,i<m→∀ k,k<n→dst i≠vs k
  vv:∀ k,k<n→∀ l,l<n→vs k=vs l→k=l
  sd:∀ k,k<n→∃ j,j<m∧src k=dst j∧Region.waitsFor .any ops (m+n+k) j=true
  sa:∀ k,k<n→Region.waitsFor .any ops (m+n+k) (m+k)=true
  stays:∀ j,j<m→IStays (F j)
  step:∀ j,j<m→∀ t w,Ext V w→(∀ i,i<m→Region.waitsFor .any ops j i=true→F i (t (dst i)) w)→∀ K:Act→World→Prop,
    (∀ x w',Ext w w'→F j x w'→K (fr (upd t (dst j) x)) w')→wpOp P ops Q j K (fr t) w
  alloc:∀ k,k<n→∀ t w (K:Act→World→Prop),K (fr (upd t (vs k) (.pointer (some ⟨w.heap.size,0,none⟩)))) (w.alloc (.cells #[.int .u64 0,.int .u64 0] 25))→wpOp P ops Q (m+k) K (fr t) w
  store:∀ k,k<n→∀ t w (K:Act→World→Prop) g (x y:Int),t (vs k)=.pointer (some ⟨g,0,none⟩)→t (src k)=.agg #[.int .u64 x,.int .u64 y]→IBa w g →
    K (fr t) ((w.setCell ⟨g,0,none⟩ (.int .u64 x)).setCell ⟨g,1,none⟩ (.int .u64 y))→wpOp P ops Q (m+n+k) K (fr t) w
  isnum:∀ k j,k<n→j<m→src k=dst j→∀ v w,F j v w→∃ x y:Int,v=.agg #[.int .u64 x,.int .u64 y]
def IInv (V:World) (fr:(Nat→Value)→Act) (m n:Nat) (dst vs src:Nat→Nat) (F:Nat→Value→World→Prop) (listed:Array Bool) (a:Act) (w:World):Prop :=
  ∃ (t:Nat→Value) (g:Nat→Nat),a=fr t∧Ext V w∧(∀ j,j<m→listed.getD j false=true→F j (t (dst j)) w) ∧
    (∀ k,k<n→listed.getD (m+k) false=true→t (vs k)=.pointer (some ⟨g k,0,none⟩)∧V.heap.size≤g k∧IBa w (g k)) ∧
    (∀ k l,k<n→l<n→k≠l→listed.getD (m+k) false=true→listed.getD (m+l) false=true→g k≠g l) ∧
    (∀ k,k<n→listed.getD (m+n+k) false=true→listed.getD (m+k) false=true∧(∀ j,j<m→src k=dst j→listed.getD j false=true)∧IBv w (g k) (t (src k)))
theorem region_ivals {P:Program} {ops:Array Oper} {Q:Exit→Act→World→Prop} {V:World} {fr:(Nat→Value)→Act} {m n:Nat} {dst vs src:Nat→Nat} {F:Nat→Value→World→Prop} (R:IRegion P ops Q V fr m n dst vs src F) (t0:Nat→Value) (w:World) (hw:Ext V w)
    (hend:∀ (t:Nat→Value) (g:Nat→Nat) w',Ext V w'→(∀ j,j<m→F j (t (dst j)) w')→(∀ k,k<n→t (vs k)=.pointer (some ⟨g k,0,none⟩)∧V.heap.size≤g k∧IBv w' (g k) (t (src k)))→(∀ k l,k<n→l<n→k≠l→g k≠g l)→Q .normal (fr t) w') :
    wpAny P .any ops Q ops.size (Array.replicate ops.size false) (fr t0) w:=by
  refine wpAny_inv (I:=IInv V fr m n dst vs src F) ?_ ?_ R.ord _ _ _ _ (by simp) ?_ ?_
  · rintro i listed a wx hs hi ⟨t,g,rfl,hE,h1,h2,h3,h4⟩
    have hlt:=ready_lt hi
    have hun:=getD_both (mem_ready.1 hi).1
    rw [R.size] at hlt
    by_cases c1:i<m
    · refine R.step i c1 t wx hE (fun j hj hw=>h1 j hj (ready_dep hi hw)) _ ?_
      intro x w' hE' hF
      refine ⟨_,g,rfl,Ext.trans hE hE',?_,?_,?_,?_⟩
      · intro j hj hl
        by_cases hji:j=i
        · subst hji;rw [upd_at];exact hF
        · rw [upd_ne _ _ (fun e=>hji (R.dd j hj i c1 e))]
          rcases listed_set hl with h | h
          · exact absurd h hji
          · exact (R.stays j hj).ext _ _ _ (h1 j hj h) hE'
      · intro k hk hl
        rcases listed_set hl with h | h
        · omega
        · rw [upd_ne _ _ (fun e=>R.dv i c1 k hk e.symm)]
          obtain ⟨e1,e2,e3⟩:=h2 k hk h
          exact ⟨e1,e2,e3.ext hE'⟩
      · intro k l hk hl hkl a1 a2
        rcases listed_set a1 with h | h
        · omega
        · rcases listed_set a2 with h' | h'
          · omega
          · exact h3 k l hk hl hkl h h'
      · intro k hk hl
        rcases listed_set hl with h | h
        · omega
        · obtain ⟨a1,a3,a2⟩:=h4 k hk h
          refine ⟨getD_set_true a1,fun j hj e=>getD_set_true (a3 j hj e),?_⟩
          obtain ⟨j,hj,hsj,hwf⟩:=R.sd k hk
          by_cases hji:j=i
          · exfalso
            subst hji
            have:=a3 j hj hsj
            rw [hun] at this
            cases this
          · rw [hsj,upd_ne _ _ (fun e=>hji (R.dd j hj i c1 e)),←hsj]
            exact a2.ext hE'
    · by_cases c2:i<m+n
      · obtain ⟨k,rfl⟩:∃ k,i=m+k:=⟨i - m,by omega⟩
        have hk:k<n:=by omega
        refine R.alloc k hk t wx _ ?_
        have hEa:Ext wx (wx.alloc (.cells #[.int .u64 0,.int .u64 0] 25)):=ext_of_alloc _ _
        have hnew:=IBox.new wx 0 0
        refine ⟨_,updN g k wx.heap.size,rfl,Ext.trans hE hEa,?_,?_,?_,?_⟩
        · intro j hj hl
          rw [upd_ne _ _ (R.dv j hj k hk)]
          rcases listed_set hl with h | h
          · omega
          · exact (R.stays j hj).ext _ _ _ (h1 j hj h) hEa
        · intro l hl hll
          by_cases hlk:l=k
          · subst hlk
            rw [upd_at,updN_at]
            exact ⟨rfl,Below.size hE,⟨_,_,hnew⟩⟩
          · rw [upd_ne _ _ (fun e=>hlk (R.vv l hl k hk e)),updN_ne _ _ hlk]
            rcases listed_set hll with h | h
            · omega
            · obtain ⟨e1,e2,e3⟩:=h2 l hl h
              exact ⟨e1,e2,e3.ext hEa⟩
        · intro l l' hl hl' hne a1 a2
          by_cases hlk:l=k
          · subst hlk
            rw [updN_at,updN_ne _ _ (Ne.symm hne)]
            rcases listed_set a2 with h | h
            · omega
            · have:=(h2 l' hl' h).2.2.lt
              omega
          · rw [updN_ne _ _ hlk]
            rcases listed_set a1 with h | h
            · omega
            · by_cases hlk':l'=k
              · subst hlk'
                rw [updN_at]
                have:=(h2 l hl h).2.2.lt
                omega
              · rw [updN_ne _ _ hlk']
                rcases listed_set a2 with h' | h'
                · omega
                · exact h3 l l' hl hl' hne h h'
        · intro l hl hll
          rcases listed_set hll with h | h
          · omega
          · obtain ⟨a1,a3,a2⟩:=h4 l hl h
            have hlk:l≠k:=by
              rintro rfl
              rw [hun] at a1
              cases a1
            refine ⟨getD_set_true a1,fun j hj e=>getD_set_true (a3 j hj e),?_⟩
            obtain ⟨j,hj,hsj,hwf⟩:=R.sd l hl
            rw [updN_ne _ _ hlk,hsj,upd_ne _ _ (R.dv j hj k hk),←hsj]
            exact a2.ext hEa
      · obtain ⟨k,rfl⟩:∃ k,i=m+n+k:=⟨i - m - n,by omega⟩
        have hk:k<n:=by omega
        obtain ⟨j,hj,hsj,hwf⟩:=R.sd k hk
        have hla:=ready_dep hi (R.sa k hk)
        obtain ⟨e1,e2,e3⟩:=h2 k hk hla
        have hF:=h1 j hj (ready_dep hi hwf)
        obtain ⟨x,y,hv⟩:=R.isnum k j hk hj hsj _ _ hF
        rw [←hsj] at hv
        refine R.store k hk t wx _ (g k) x y e1 hv e3 ?_
        have hno:=e3
        obtain ⟨x0,y0,hbx⟩:=e3
        have ho:=only_iset2 wx (g k) (.int .u64 x) (.int .u64 y)
        have hst:=hbx.stored x y
        generalize (wx.setCell ⟨g k,0,none⟩ (.int .u64 x)).setCell ⟨g k,1,none⟩ (.int .u64 y)=W at *
        refine ⟨t,g,rfl,Below.trans hE (ho.below e2),?_,?_,?_,?_⟩
        · intro j' hj' hl
          rcases listed_set hl with h | h
          · omega
          · exact (R.stays j' hj').only _ _ _ _ (h1 j' hj' h) hno ho
        · intro l hl hll
          rcases listed_set hll with h | h
          · omega
          · obtain ⟨q1,q2,q3⟩:=h2 l hl h
            refine ⟨q1,q2,?_⟩
            by_cases hlk:l=k
            · subst hlk;exact ⟨_,_,hst⟩
            · exact q3.only ho (h3 l k hl hk hlk h hla)
        · intro l l' hl hl' hne a1 a2
          rcases listed_set a1 with h | h
          · omega
          · rcases listed_set a2 with h' | h'
            · omega
            · exact h3 l l' hl hl' hne h h'
        · intro l hl hll
          by_cases hlk:l=k
          · subst hlk
            refine ⟨getD_set_true hla,fun j' hj' e=>?_,x,y,hv,hst⟩
            rw [R.dd j' hj' j hj (e.symm.trans hsj)]
            exact getD_set_true (ready_dep hi hwf)
          · rcases listed_set hll with h | h
            · omega
            · obtain ⟨a1,a3,a2⟩:=h4 l hl h
              exact ⟨getD_set_true a1,fun j' hj' e=>getD_set_true (a3 j' hj' e),a2.only ho (h3 l k hl hk hlk a1 hla)⟩
  · rintro listed a wx hall ⟨t,g,rfl,hE,h1,h2,h3,h4⟩
    rw [R.size] at hall
    refine hend t g wx hE (fun j hj=>h1 j hj (hall j (by omega))) (fun k hk=>?_) (fun k l hk hl hkl=>h3 k l hk hl hkl (hall _ (by omega)) (hall _ (by omega)))
    obtain ⟨e1,e2,e3⟩:=h2 k hk (hall _ (by omega))
    exact ⟨e1,e2,(h4 k hk (hall _ (by omega))).2.2⟩
  · rw [Region.left]
    exact Nat.le_trans (List.countP_le_length) (by simp)
  · have hn:∀ j,(Array.replicate ops.size false).getD j false=true→False:=fun j h=>by
      rw [getD_replicate_false] at h;cases h
    exact ⟨t0,fun _=>0,rfl,hw,fun j _ h=>(hn j h).elim,fun k _ h=>(hn _ h).elim,fun k l _ _ _ h=>(hn _ h).elim,fun k _ h=>(hn _ h).elim⟩
open Go Go.RowKit
noncomputable def refDiv_r7_code:Code:=((Tryz.f18.body.bind (regOf 7)).getD .skip)
set_option maxRecDepth 100000 in
set_option maxHeartbeats 20000000 in
theorem refDiv_r7 {f0 f1 f4 f5 f6 f7 f8 f9 f10 f11 f12 f13 f14 f15 f16 f17 f18 f19 f20 f21 f22 f23 f24 f25 f26 f27 f28 f29 f30 f31 f32 f33 f34 f35 f36 f37 f38 f39 f40 f41 f42 f43 f44 f45 f46 f47 f48 f49 f50 f51 f52 f53 f54 f55 f56 f57 f58 f59 f60 f61 f62 f63 f64 f65 f66 f67 f68 f69 f70 f71 f72 f73 f74 f75 f76 f77 f78 f79 f80 f81 f82 f83 f84:Value} {J K':Act→World→Prop} {Q':Exit→Act→World→Prop} {a b c d B:Nat} {x0 y0 x1 y1:Int} {V:World}
    (hJ:∀ (a':Act) (wx:World),(∃ u9 u10 u45 u46 u47 u48 u49 u50 u51 u52 u53 u54 u55 u56 u57 u58 u59 u60 u61 u62 u63 u64 u65 u66 u67 u68 u69 u70 u71 u72 u73 u74 u75 u76 u77 u78 u79 u80 u81 u82 u83 u84:Value,(∃ g h,u9=.pointer (some ⟨g,0,none⟩)∧u10=.pointer (some ⟨h,0,none⟩)∧IBox wx g x0 y0∧IBox wx h x1 y1∧V.heap.size≤g∧V.heap.size≤h∧Ext V wx)∧a'=⟨#[f0,f1,.pointer (some ⟨B,0,none⟩),.pointer (some ⟨B+1,0,none⟩),f4,f5,f6,f7,f8,u9,u10,f11,f12,f13,f14,f15,f16,f17,f18,f19,f20,f21,f22,f23,f24,f25,f26,f27,f28,f29,f30,f31,f32,f33,f34,f35,f36,f37,f38,f39,f40,f41,f42,f43,f44,u45,u46,u47,u48,u49,u50,u51,u52,u53,u54,u55,u56,u57,u58,u59,u60,u61,u62,u63,u64,u65,u66,u67,u68,u69,u70,u71,u72,u73,u74,u75,u76,u77,u78,u79,u80,u81,u82,u83,u84],[]⟩)→J a' wx) (hK:∀ (a':Act) (wx:World),Met J a' wx→K' a' wx)
    (N0:Hid (∀ w,Calls Tryz.prog 10 #[.agg #[.int .u64 (a:Int),.int .u64 (b:Int)]] w fun e w'=>e=.returned (.agg #[.int .u64 x0,.int .u64 y0])∧Ext w w')) (N1:Hid (∀ w,Calls Tryz.prog 10 #[.agg #[.int .u64 (c:Int),.int .u64 (d:Int)]] w fun e w'=>e=.returned (.agg #[.int .u64 x1,.int .u64 y1])∧Ext w w')) (HC0:Hid (∀ wx,Ext V wx→wx.cell? ⟨B,0,none⟩=some (.int .u64 (a:Int))∧wx.cell? ⟨B,1,none⟩=some (.int .u64 (b:Int)))) (HC1:Hid (∀ wx,Ext V wx→wx.cell? ⟨(B+1),0,none⟩=some (.int .u64 (c:Int))∧wx.cell? ⟨(B+1),1,none⟩=some (.int .u64 (d:Int)))) :
    Code.wp Tryz.prog refDiv_r7_code (Exit.then K' Q') ⟨#[f0,f1,.pointer (some ⟨B,0,none⟩),.pointer (some ⟨B+1,0,none⟩),f4,f5,f6,f7,f8,f9,f10,f11,f12,f13,f14,f15,f16,f17,f18,f19,f20,f21,f22,f23,f24,f25,f26,f27,f28,f29,f30,f31,f32,f33,f34,f35,f36,f37,f38,f39,f40,f41,f42,f43,f44,f45,f46,f47,f48,f49,f50,f51,f52,f53,f54,f55,f56,f57,f58,f59,f60,f61,f62,f63,f64,f65,f66,f67,f68,f69,f70,f71,f72,f73,f74,f75,f76,f77,f78,f79,f80,f81,f82,f83,f84],[]⟩ V:=by
  conv=>arg 2;whnf
  refine wp_region_any (by kernel_rfl) ?_
  refine region_ivals (V:=V) (fr:=fun t:Nat→Value=>(⟨#[f0,f1,.pointer (some ⟨B,0,none⟩),.pointer (some ⟨B+1,0,none⟩),f4,f5,f6,f7,f8,(t 9),(t 10),f11,f12,f13,f14,f15,f16,f17,f18,f19,f20,f21,f22,f23,f24,f25,f26,f27,f28,f29,f30,f31,f32,f33,f34,f35,f36,f37,f38,f39,f40,f41,f42,f43,f44,(t 45),(t 46),(t 47),(t 48),f49,f50,f51,f52,f53,f54,f55,f56,f57,f58,f59,f60,f61,f62,f63,f64,f65,f66,f67,f68,f69,f70,f71,f72,f73,f74,f75,f76,f77,f78,f79,f80,f81,f82,f83,f84],[]⟩:Act)) (m:=4) (n:=2) (dst:=fun j=>#[45,46,47,48].getD j 0) (vs:=fun k=>#[9,10].getD k 0) (src:=fun k=>#[46,48].getD k 0)
    (F:=fun j=>match j with | 0=>(fun v _=>v=.agg #[.int .u64 (a:Int),.int .u64 (b:Int)]) | 1=>(fun v _=>v=.agg #[.int .u64 x0,.int .u64 y0]) | 2=>(fun v _=>v=.agg #[.int .u64 (c:Int),.int .u64 (d:Int)]) | 3=>(fun v _=>v=.agg #[.int .u64 x1,.int .u64 y1]) | _=>fun _ _=>True) ?_ (fun s=>#[f0,f1,.pointer (some ⟨B,0,none⟩),.pointer (some ⟨B+1,0,none⟩),f4,f5,f6,f7,f8,f9,f10,f11,f12,f13,f14,f15,f16,f17,f18,f19,f20,f21,f22,f23,f24,f25,f26,f27,f28,f29,f30,f31,f32,f33,f34,f35,f36,f37,f38,f39,f40,f41,f42,f43,f44,f45,f46,f47,f48,f49,f50,f51,f52,f53,f54,f55,f56,f57,f58,f59,f60,f61,f62,f63,f64,f65,f66,f67,f68,f69,f70,f71,f72,f73,f74,f75,f76,f77,f78,f79,f80,f81,f82,f83,f84].getD s undef) (World.drew _) ((Below.refl _ _).drew) ?_
  · refine IRegion.mk (by kernel_rfl) (by kernel_rfl) (by decide) (by decide) (by decide) ?sd ?sa ?stays ?step ?alloc ?store ?isnum
    case sd =>
      intro k hk
      match k,hk with
      | 0,_=>exact ⟨1,by decide,rfl,by kernel_rfl⟩
      | 1,_=>exact ⟨3,by decide,rfl,by kernel_rfl⟩
    case sa =>
      intro k hk
      match k,hk with
      | 0,_=>show (_:Bool)=true;kernel_rfl
      | 1,_=>show (_:Bool)=true;kernel_rfl
    case stays =>
      intro j hj
      match j,hj with
      | 0,_=>exact IStays.eq _
      | 1,_=>exact IStays.eq _
      | 2,_=>exact IStays.eq _
      | 3,_=>exact IStays.eq _
    case step =>
      intro j hj t w hE hd K hK
      match j,hj with
      | 0,_ =>
        obtain ⟨c0,c1⟩:=HC0.out w hE
        refine wpOp_step rfl (fun K' hK'=>?_)
        go_simp
        exact hK' _ _ (hK (.agg #[.int .u64 (a:Int),.int .u64 (b:Int)]) w (Ext.refl _) rfl)
      | 1,_ =>
        have d1:t 45=.agg #[.int .u64 (a:Int),.int .u64 (b:Int)]:=hd 0 (by decide) (by kernel_rfl)
        rw [upd_self d1] at hK ⊢
        have e1:upd t 45 (.agg #[.int .u64 (a:Int),.int .u64 (b:Int)]) 45=.agg #[.int .u64 (a:Int),.int .u64 (b:Int)]:=rfl
        clear hd d1
        refine wpOp_step rfl (fun K' hK'=>?_)
        go_simp
        go_wp2_with (go_at_call 10;(with_reducible refine (N0.out _).mono ?_);rintro r wn ⟨rfl,hE'⟩)
        first | exact hK _ wn hE' rfl | exact hK' _ _ (hK _ wn hE' rfl)
      | 2,_ =>
        obtain ⟨c0,c1⟩:=HC1.out w hE
        refine wpOp_step rfl (fun K' hK'=>?_)
        go_simp
        exact hK' _ _ (hK (.agg #[.int .u64 (c:Int),.int .u64 (d:Int)]) w (Ext.refl _) rfl)
      | 3,_ =>
        have d1:t 47=.agg #[.int .u64 (c:Int),.int .u64 (d:Int)]:=hd 2 (by decide) (by kernel_rfl)
        rw [upd_self d1] at hK ⊢
        have e1:upd t 47 (.agg #[.int .u64 (c:Int),.int .u64 (d:Int)]) 47=.agg #[.int .u64 (c:Int),.int .u64 (d:Int)]:=rfl
        clear hd d1
        refine wpOp_step rfl (fun K' hK'=>?_)
        go_simp
        go_wp2_with (go_at_call 10;(with_reducible refine (N1.out _).mono ?_);rintro r wn ⟨rfl,hE'⟩)
        first | exact hK _ wn hE' rfl | exact hK' _ _ (hK _ wn hE' rfl)
    case alloc =>
      intro k hk t w K hK
      match k,hk with
      | 0,_ =>
        refine wpOp_step rfl (fun K' hK'=>?_)
        go_simp
        exact hK' _ _ hK
      | 1,_ =>
        refine wpOp_step rfl (fun K' hK'=>?_)
        go_simp
        exact hK' _ _ hK
    case store =>
      intro k hk t w K g x y hp hs hb hK
      obtain ⟨j0,b0,hb⟩:=hb
      have z0:=hb.c0
      have z1:=hb.c1
      have q0:=hb.f 0
      have q1:=hb.f 1
      match k,hk with
      | 0,_ =>
        have hp:t 9=.pointer (some ⟨g,0,none⟩):=hp
        have hs:t 46=.agg #[.int .u64 x,.int .u64 y]:=hs
        rw [upd_self2 hp hs] at hK ⊢
        have e1:upd (upd t 9 (.pointer (some ⟨g,0,none⟩))) 46 (.agg #[.int .u64 x,.int .u64 y]) 46=.agg #[.int .u64 x,.int .u64 y]:=rfl
        have e2:upd (upd t 9 (.pointer (some ⟨g,0,none⟩))) 46 (.agg #[.int .u64 x,.int .u64 y]) 9=.pointer (some ⟨g,0,none⟩):=rfl
        clear hp hs
        refine wpOp_step rfl (fun K' hK'=>?_)
        go_simp
        exact hK' _ _ hK
      | 1,_ =>
        have hp:t 10=.pointer (some ⟨g,0,none⟩):=hp
        have hs:t 48=.agg #[.int .u64 x,.int .u64 y]:=hs
        rw [upd_self2 hp hs] at hK ⊢
        have e1:upd (upd t 10 (.pointer (some ⟨g,0,none⟩))) 48 (.agg #[.int .u64 x,.int .u64 y]) 48=.agg #[.int .u64 x,.int .u64 y]:=rfl
        have e2:upd (upd t 10 (.pointer (some ⟨g,0,none⟩))) 48 (.agg #[.int .u64 x,.int .u64 y]) 10=.pointer (some ⟨g,0,none⟩):=rfl
        clear hp hs
        refine wpOp_step rfl (fun K' hK'=>?_)
        go_simp
        exact hK' _ _ hK
    case isnum =>
      intro k j hk hj e v w h
      match k,hk with
      | 0,_ =>
        have hall:∀ j,j<4→(#[46,48].getD 0 0)=(#[45,46,47,48].getD j 0)→j=1:=by decide
        obtain rfl:=hall j hj e
        exact ⟨_,_,h⟩
      | 1,_ =>
        have hall:∀ j,j<4→(#[46,48].getD 1 0)=(#[45,46,47,48].getD j 0)→j=3:=by decide
        obtain rfl:=hall j hj e
        exact ⟨_,_,h⟩
  · intro t g wx hE hF hg hne
    refine hK _ _ (Met.intro (hJ _ _ ?_))
    (repeat apply Exists.intro)
    refine ⟨?rel,rfl⟩
    have e0:t 46=.agg #[.int .u64 x0,.int .u64 y0]:=hF 1 (by decide)
    have e1:t 48=.agg #[.int .u64 x1,.int .u64 y1]:=hF 3 (by decide)
    obtain ⟨p0,q0,r0⟩:=hg 0 (by decide)
    obtain ⟨p1,q1,r1⟩:=hg 1 (by decide)
    obtain ⟨i1,j1,m1,b1⟩:=(show IBv wx (g 0) (t 46) from r0)
    obtain ⟨i2,j2,m2,b2⟩:=(show IBv wx (g 1) (t 48) from r1)
    rw [e0] at m1
    rw [e1] at m2
    cases m1
    cases m2
    exact ⟨g 0,g 1,p0,p1,b1,b2,q0,q1,hE⟩
end Go.Proofs.YtkomhemjodbkpaaGreatDoor
