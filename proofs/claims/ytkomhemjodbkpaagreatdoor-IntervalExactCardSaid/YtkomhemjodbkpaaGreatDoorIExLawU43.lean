import Derived.Test.YtkomhemjodbkpaaGreatDoorIExLawU24
import Derived.Test.YtkomhemjodbkpaaGreatDoorIExLawU29
import Derived.Test.YtkomhemjodbkpaaGreatDoorIExLawU41
import Derived.Test.YtkomhemjodbkpaaGreatDoorIExLawU28
import Derived.Test.YtkomhemjodbkpaaGreatDoorIExLawU31
namespace Go.Proofs.YtkomhemjodbkpaaGreatDoor
open Go Go.RowKit
set_option maxRecDepth 100000 in
set_option maxHeartbeats 4000000 in
theorem isub_gen (a b c d R1 R2:Nat) (x y:Int)
    (CN:Hid (∀ w,Calls Tryz.prog 9 #[.agg #[.int .u64 (c:Int),.int .u64 (d:Int)]] w fun e w'=>e=.returned (.agg #[.int .u64 (R1:Int),.int .u64 (R2:Int)])∧Ext w w'))
    (CA:Hid (∀ w,Calls Tryz.prog 11 #[.agg #[.int .u64 (a:Int),.int .u64 (b:Int)],.agg #[.int .u64 (R1:Int),.int .u64 (R2:Int)]] w fun e w'=>e=.returned (.agg #[.int .u64 x,.int .u64 y])∧Ext w w')) (w:World) :
    Calls Tryz.prog 13 #[.agg #[.int .u64 (a:Int),.int .u64 (b:Int)],.agg #[.int .u64 (c:Int),.int .u64 (d:Int)]] w fun e w'=>e=.returned (.agg #[.int .u64 x,.int .u64 y])∧Ext w w':=by
  go_enter Tryz.func13,Tryz.ntmps13
  go_upto_region 1 with fail
  obtain ⟨W,hW,hB,hx,hy,hbx,hsz⟩:=ibox_three w a b c d 0 0
  rw [←hW]
  clear hW
  generalize hBe:w.heap.size=B at *
  have HBe:=Lib.hid hBe
  have HB:Hid (Below B w W):=Lib.hid (by rw [←hBe];exact hB)
  clear hBe hB
  have hBs:B+3≤W.heap.size:=hsz
  clear hsz
  have c0:=hx.c0
  have c1:=hx.c1
  have c2:=hy.c0
  have c3:=hy.c1
  have HC:=Lib.hid (show ∀ wx,Ext W wx→(wx.cell? ⟨B,0,none⟩=some (.int .u64 (a:Int))∧wx.cell? ⟨B,1,none⟩=some (.int .u64 (b:Int))∧wx.cell? ⟨B+1,0,none⟩=some (.int .u64 (c:Int))∧wx.cell? ⟨B+1,1,none⟩=some (.int .u64 (d:Int))) from fun wx h=>⟨(hx.below h).c0,(hx.below h).c1,(hy.below h).c0,(hy.below h).c1⟩)
  have st:Ext W W.drew:=(Below.refl _ _).drew
  go_region_held3 (fun wx=>wx.cell? ⟨B,0,none⟩=some (.int .u64 (a:Int))∧wx.cell? ⟨B,1,none⟩=some (.int .u64 (b:Int))∧wx.cell? ⟨B+1,0,none⟩=some (.int .u64 (c:Int))∧wx.cell? ⟨B+1,1,none⟩=some (.int .u64 (d:Int)))
    (first | exact HC.out _ (by assumption) | exact HC.out _ (Ext.refl _) | (refine ⟨?_,?_,?_,?_⟩ <;> go_simp))
    (first
      | (go_at_call 9;refine (CN.out _).mono ?_;rintro r w3 ⟨rfl,hE1⟩;have ex1:Ext W w3:=Ext.trans st hE1)
      | (go_at_call 11;refine (CA.out _).mono ?_;rintro r w5 ⟨rfl,hE3⟩;have ex3:Ext W w5:=Ext.trans ex1 hE3;have b3:=hbx.below ex3;have q0:=b3.c0;have q1:=b3.c1;have q2:=b3.f 0;have q3:=b3.f 1))
  all_goals
    have hst:=b3.stored x y
    have z0:=hst.c0
    have z1:=hst.c1
    have HF:=Lib.hid ((HB.out.trans (Below.mono ex3 (by omega))).trans ((only_iset2 w5 (B+1+1) (.int .u64 x) (.int .u64 y)).below (by omega)))
    clear hst q0 q1 q2 q3
    go_wp2
    refine bodyPost_ret (v:=.agg #[.int .u64 x,.int .u64 y]) (by simp [results,Tryz.results13,go_sem,z0,z1]) rfl ⟨rfl,?_⟩
    show Below _ _ _
    rw [HBe.out]
    exact HF.out
theorem isub_no (a b c d:Nat) (ha:a<18446744073709551616) (hb:b<18446744073709551616) (hc:c<18446744073709551616) (hd:d<18446744073709551616) (h:validF a b=false∨validF c d=false) (w:World) :
    Calls Tryz.prog 13 #[.agg #[.int .u64 (a:Int),.int .u64 (b:Int)],.agg #[.int .u64 (c:Int),.int .u64 (d:Int)]] w fun e w'=>e=.returned (.agg #[.int .u64 18442240474082181120,.int .u64 9218868437227405312])∧Ext w w':=by
  cases h2:validF c d with
  | true =>
    have h1:validF a b=false:=by
      rcases h with h | h
      · exact h
      · rw [h2] at h;cases h
    exact isub_gen a b c d _ _ _ _ (Lib.hid (ineg_yes c d hc hd h2)) (Lib.hid (iadd_no a b _ _ ha hb (plainF_lt fnegF_lt) (plainF_lt fnegF_lt) (Or.inl h1))) w
  | false =>
    cases h1:validF a b with
    | false=>exact isub_gen a b c d 18442240474082181120 9218868437227405312 _ _ (Lib.hid (ineg_no c d hc hd h2)) (Lib.hid (iadd_no a b _ _ ha hb (by omega) (by omega) (Or.inl h1))) w
    | true =>
      have g:=Good.of ha hb h1
      have e1:plainF (faddF a 18442240474082181120 1)=18442240474082181120:=by
        rw [add_infR 1 ha (by omega) (by decide) g.n1 (fun hi=>by
          rcases inf_ends hi with ⟨k,-⟩ | ⟨-,k⟩
          · rw [k];decide
          · exact absurd k (by have:=g.lo;omega))]
        decide
      have e2:plainF (faddF b 9218868437227405312 2)=9218868437227405312:=by
        rw [add_infR 2 hb (by omega) (by decide) g.n2 (fun hi=>by
          rcases inf_ends hi with ⟨-,k⟩ | ⟨k,-⟩
          · exact absurd k (by have:=g.hi;omega)
          · rw [k];decide)]
        decide
      have CA:=iadd_yes a b 18442240474082181120 9218868437227405312 ha hb (by omega) (by omega) h1 (by decide)
      rw [e1,e2] at CA
      exact isub_gen a b c d 18442240474082181120 9218868437227405312 _ _ (Lib.hid (ineg_no c d hc hd h2)) (Lib.hid CA) w
set_option maxRecDepth 100000 in
set_option maxHeartbeats 8000000 in
theorem isqrt_neg (a b:Nat) (g:Good a b) (h:frank b<0) (w:World) :
    Calls Tryz.prog 21 #[.agg #[.int .u64 (a:Int),.int .u64 (b:Int)]] w fun e w'=>e=.returned (.agg #[.int .u64 18442240474082181120,.int .u64 9218868437227405312])∧Ext w w':=by
  have C1:=Lib.hid (ivalid_at a b g.l1 g.l2 rfl rfl true g.valid)
  have C2:=Lib.hid (isLess_at b 0 g.l2 (by decide) rfl rfl true (by rw [less_rank g.n2 (by decide)];exact decide_eq_true (by rw [show frank 0=0 by decide];exact h)))
  clear h g
  go_enter Tryz.func21,Tryz.ntmps21
  go_wp2_with fail
  obtain ⟨W,hW,hB,hx,hbx,hsz⟩:=ibox_two w a b 0 0
  rw [←hW]
  clear hW
  generalize hBe:w.heap.size=B at *
  have HBe:=Lib.hid hBe
  have HB:Hid (Below B w W):=Lib.hid (by rw [←hBe];exact hB)
  clear hBe hB hsz
  have c0:=hx.c0
  have c1:=hx.c1
  go_wp2_with fail
  refine (C1.out _).mono ?_
  rintro r w1 ⟨rfl,hE⟩
  have HB:=Lib.hid (HB.out.trans (Below.mono hE (Nat.le_of_lt hx.lt)))
  have hx:=hx.below hE
  have hbx:=hbx.below hE
  clear c0 c1 hE
  have c0:=hx.c0
  have c1:=hx.c1
  go_wp2_with fail
  refine (C2.out _).mono ?_
  rintro r w2 ⟨rfl,hE⟩
  have HB:=Lib.hid (HB.out.trans (Below.mono hE (Nat.le_of_lt hx.lt)))
  have hx:=hx.below hE
  have hbx:=hbx.below hE
  clear c0 c1 hE
  have c0:=hx.c0
  have c1:=hx.c1
  go_wp2_with fail
  refine (whole_any _).mono ?_
  rintro r w9 ⟨rfl,hE⟩
  have hbx:=hbx.below hE
  have HB:=Lib.hid (HB.out.trans (Below.mono hE (Nat.le_of_lt hx.lt)))
  clear hE
  have q0:=hbx.c0
  have q1:=hbx.c1
  have f0:=hbx.f 0
  have f1:=hbx.f 1
  have z:=hbx.stored 18442240474082181120 9218868437227405312
  have z0:=z.c0
  have z1:=z.c1
  have HZ:=Lib.hid (HB.out.trans ((only_iset2 w9 (B+1) (.int .u64 18442240474082181120) (.int .u64 9218868437227405312)).below (by omega)))
  clear z
  go_wp2
  refine bodyPost_ret (v:=.agg #[.int .u64 18442240474082181120,.int .u64 9218868437227405312]) (by simp [results,Tryz.results21,go_sem,z0,z1]) rfl ⟨rfl,?_⟩
  show Below _ _ _
  rw [HBe.out]
  exact HZ.out
open Go Go.RowKit
noncomputable def refDiv_r3_code:Code:=((Tryz.f18.body.bind (regOf 3)).getD .skip)
set_option maxRecDepth 100000 in
set_option maxHeartbeats 20000000 in
theorem refDiv_r3 {f0 f1 f4 f5 f6 f7 f8 f9 f10 f11 f12 f13 f14 f15 f16 f17 f18 f19 f20 f21 f22 f23 f24 f25 f26 f27 f28 f29 f30 f31 f32 f33 f34 f35 f36 f37 f38 f39 f40 f41 f42 f43 f44 f45 f46 f47 f48 f49 f50 f51 f52 f53 f54 f55 f56 f57 f58 f59 f60 f61 f62 f63 f64 f65 f66 f67 f68 f69 f70 f71 f72 f73 f74 f75 f76 f77 f78 f79 f80 f81 f82 f83 f84:Value} {J K':Act→World→Prop} {Q':Exit→Act→World→Prop} {a b c d B:Nat} {V:World}
    (hJ:∀ (a':Act) (wx:World),(∃ u5 u6 u7 u8 u21 u22 u23 u24 u25 u26 u27 u28 u29 u30 u31 u32 u33 u34 u35 u36 u37 u38 u39 u40 u41 u42 u43 u44 u45 u46 u47 u48 u49 u50 u51 u52 u53 u54 u55 u56 u57 u58 u59 u60 u61 u62 u63 u64 u65 u66 u67 u68 u69 u70 u71 u72 u73 u74 u75 u76 u77 u78 u79 u80 u81 u82 u83 u84:Value,(∃ g0 g1 g2 g3 v0 v1 v2 v3,u5=.pointer (some ⟨g0,0,none⟩)∧u6=.pointer (some ⟨g1,0,none⟩)∧u7=.pointer (some ⟨g2,0,none⟩)∧u8=.pointer (some ⟨g3,0,none⟩)∧(NBv wx g0 v0∧NumV wx v0 (numI a) (numD a)∧V.heap.size≤g0)∧(NBv wx g1 v1∧NumV wx v1 (numI b) (numD b)∧V.heap.size≤g1)∧(NBv wx g2 v2∧NumV wx v2 (numI c) (numD c)∧V.heap.size≤g2)∧(NBv wx g3 v3∧NumV wx v3 (numI d) (numD d)∧V.heap.size≤g3)∧(g0≠g1∧g0≠g2∧g0≠g3∧g1≠g2∧g1≠g3∧g2≠g3)∧Ext V wx)∧a'=⟨#[f0,f1,.pointer (some ⟨B,0,none⟩),.pointer (some ⟨B+1,0,none⟩),f4,u5,u6,u7,u8,f9,f10,f11,f12,f13,f14,f15,f16,f17,f18,f19,f20,u21,u22,u23,u24,u25,u26,u27,u28,u29,u30,u31,u32,u33,u34,u35,u36,u37,u38,u39,u40,u41,u42,u43,u44,u45,u46,u47,u48,u49,u50,u51,u52,u53,u54,u55,u56,u57,u58,u59,u60,u61,u62,u63,u64,u65,u66,u67,u68,u69,u70,u71,u72,u73,u74,u75,u76,u77,u78,u79,u80,u81,u82,u83,u84],[]⟩)→J a' wx) (hK:∀ (a':Act) (wx:World),Met J a' wx→K' a' wx)
    (NA:Hid (∀ w,Table w→Calls Tryz.prog 48 #[.int .u64 (a:Int)] w fun e w'=>∃ v,e=.returned v∧NumV w' v (numI a) (numD a)∧Ext w w')) (NB:Hid (∀ w,Table w→Calls Tryz.prog 48 #[.int .u64 (b:Int)] w fun e w'=>∃ v,e=.returned v∧NumV w' v (numI b) (numD b)∧Ext w w')) (NC:Hid (∀ w,Table w→Calls Tryz.prog 48 #[.int .u64 (c:Int)] w fun e w'=>∃ v,e=.returned v∧NumV w' v (numI c) (numD c)∧Ext w w')) (ND:Hid (∀ w,Table w→Calls Tryz.prog 48 #[.int .u64 (d:Int)] w fun e w'=>∃ v,e=.returned v∧NumV w' v (numI d) (numD d)∧Ext w w')) (HTV:Hid (∀ wx,Ext V wx→Table wx)) (HC0:Hid (∀ wx,Ext V wx→wx.cell? ⟨B,0,none⟩=some (.int .u64 (a:Int)))) (HC1:Hid (∀ wx,Ext V wx→wx.cell? ⟨B,1,none⟩=some (.int .u64 (b:Int)))) (HC2:Hid (∀ wx,Ext V wx→wx.cell? ⟨(B+1),0,none⟩=some (.int .u64 (c:Int)))) (HC3:Hid (∀ wx,Ext V wx→wx.cell? ⟨(B+1),1,none⟩=some (.int .u64 (d:Int)))) :
    Code.wp Tryz.prog refDiv_r3_code (Exit.then K' Q') ⟨#[f0,f1,.pointer (some ⟨B,0,none⟩),.pointer (some ⟨B+1,0,none⟩),f4,f5,f6,f7,f8,f9,f10,f11,f12,f13,f14,f15,f16,f17,f18,f19,f20,f21,f22,f23,f24,f25,f26,f27,f28,f29,f30,f31,f32,f33,f34,f35,f36,f37,f38,f39,f40,f41,f42,f43,f44,f45,f46,f47,f48,f49,f50,f51,f52,f53,f54,f55,f56,f57,f58,f59,f60,f61,f62,f63,f64,f65,f66,f67,f68,f69,f70,f71,f72,f73,f74,f75,f76,f77,f78,f79,f80,f81,f82,f83,f84],[]⟩ V:=by
  conv=>arg 2;whnf
  refine wp_region_any (by kernel_rfl) ?_
  refine region_vars (V:=V) (fr:=fun t:Nat→Value=>(⟨#[f0,f1,.pointer (some ⟨B,0,none⟩),.pointer (some ⟨B+1,0,none⟩),f4,(t 5),(t 6),(t 7),(t 8),f9,f10,f11,f12,f13,f14,f15,f16,f17,f18,f19,f20,(t 21),(t 22),(t 23),(t 24),(t 25),(t 26),(t 27),(t 28),(t 29),(t 30),(t 31),(t 32),f33,f34,f35,f36,f37,f38,f39,f40,f41,f42,f43,f44,f45,f46,f47,f48,f49,f50,f51,f52,f53,f54,f55,f56,f57,f58,f59,f60,f61,f62,f63,f64,f65,f66,f67,f68,f69,f70,f71,f72,f73,f74,f75,f76,f77,f78,f79,f80,f81,f82,f83,f84],[]⟩:Act)) (m:=12) (n:=4) (dst:=fun j=>#[21,22,23,24,25,26,27,28,29,30,31,32].getD j 0) (vs:=fun k=>#[5,6,7,8].getD k 0) (src:=fun k=>#[23,26,29,32].getD k 0)
    (F:=fun j=>match j with | 0=>(fun v _=>v=.pointer (some ⟨B,0,none⟩)) | 1=>(fun v _=>v=.int .u64 (a:Int)) | 2=>(fun v w=>NumV w v (numI a) (numD a)) | 3=>(fun v _=>v=.pointer (some ⟨B,1,none⟩)) | 4=>(fun v _=>v=.int .u64 (b:Int)) | 5=>(fun v w=>NumV w v (numI b) (numD b)) | 6=>(fun v _=>v=.pointer (some ⟨(B+1),0,none⟩)) | 7=>(fun v _=>v=.int .u64 (c:Int)) | 8=>(fun v w=>NumV w v (numI c) (numD c)) | 9=>(fun v _=>v=.pointer (some ⟨(B+1),1,none⟩)) | 10=>(fun v _=>v=.int .u64 (d:Int)) | 11=>(fun v w=>NumV w v (numI d) (numD d)) | _=>fun _ _=>True) ?_ (fun s=>#[f0,f1,.pointer (some ⟨B,0,none⟩),.pointer (some ⟨B+1,0,none⟩),f4,f5,f6,f7,f8,f9,f10,f11,f12,f13,f14,f15,f16,f17,f18,f19,f20,f21,f22,f23,f24,f25,f26,f27,f28,f29,f30,f31,f32,f33,f34,f35,f36,f37,f38,f39,f40,f41,f42,f43,f44,f45,f46,f47,f48,f49,f50,f51,f52,f53,f54,f55,f56,f57,f58,f59,f60,f61,f62,f63,f64,f65,f66,f67,f68,f69,f70,f71,f72,f73,f74,f75,f76,f77,f78,f79,f80,f81,f82,f83,f84].getD s undef) (World.drew _) ((Below.refl _ _).drew) ?_
  · refine VRegion.mk (by kernel_rfl) (by kernel_rfl) (by decide) (by decide) (by decide) ?sd ?sa ?stays ?step ?alloc ?store ?isnum
    case sd =>
      intro k hk
      match k,hk with
      | 0,_=>exact ⟨2,by decide,rfl,by kernel_rfl⟩
      | 1,_=>exact ⟨5,by decide,rfl,by kernel_rfl⟩
      | 2,_=>exact ⟨8,by decide,rfl,by kernel_rfl⟩
      | 3,_=>exact ⟨11,by decide,rfl,by kernel_rfl⟩
    case sa =>
      intro k hk
      match k,hk with
      | 0,_=>show (_:Bool)=true;kernel_rfl
      | 1,_=>show (_:Bool)=true;kernel_rfl
      | 2,_=>show (_:Bool)=true;kernel_rfl
      | 3,_=>show (_:Bool)=true;kernel_rfl
    case stays =>
      intro j hj
      match j,hj with
      | 0,_=>exact Stays.eq _
      | 1,_=>exact Stays.eq _
      | 2,_=>exact Stays.num _ _
      | 3,_=>exact Stays.eq _
      | 4,_=>exact Stays.eq _
      | 5,_=>exact Stays.num _ _
      | 6,_=>exact Stays.eq _
      | 7,_=>exact Stays.eq _
      | 8,_=>exact Stays.num _ _
      | 9,_=>exact Stays.eq _
      | 10,_=>exact Stays.eq _
      | 11,_=>exact Stays.num _ _
    case step =>
      intro j hj t w hE hd K hK
      match j,hj with
      | 0,_ =>
        refine wpOp_step rfl (fun K' hK'=>?_)
        go_simp
        exact hK' _ _ (hK (.pointer (some ⟨B,0,none⟩)) w (Ext.refl _) rfl)
      | 1,_ =>
        have d1:t 21=.pointer (some ⟨B,0,none⟩):=hd 0 (by decide) (by kernel_rfl)
        have c1:=HC0.out w hE
        rw [upd_self d1] at hK ⊢
        have e1:upd t 21 (.pointer (some ⟨B,0,none⟩)) 21=.pointer (some ⟨B,0,none⟩):=rfl
        clear hd d1
        refine wpOp_step rfl (fun K' hK'=>?_)
        go_simp
        exact hK' _ _ (hK (.int .u64 (a:Int)) w (Ext.refl _) rfl)
      | 2,_ =>
        have d1:t 22=.int .u64 (a:Int):=hd 1 (by decide) (by kernel_rfl)
        have hT:=HTV.out w hE
        rw [upd_self d1] at hK ⊢
        have e1:upd t 22 (.int .u64 (a:Int)) 22=.int .u64 (a:Int):=rfl
        clear hd d1
        refine wpOp_step rfl (fun K' hK'=>?_)
        go_simp
        go_wp2_with (go_at_call 48;(with_reducible refine (NA.out _ hT).mono ?_);rintro r wn ⟨v,rfl,hv,hE'⟩)
        first | exact hK v wn hE' hv | exact hK' _ _ (hK v wn hE' hv)
      | 3,_ =>
        refine wpOp_step rfl (fun K' hK'=>?_)
        go_simp
        exact hK' _ _ (hK (.pointer (some ⟨B,1,none⟩)) w (Ext.refl _) rfl)
      | 4,_ =>
        have d1:t 24=.pointer (some ⟨B,1,none⟩):=hd 3 (by decide) (by kernel_rfl)
        have c1:=HC1.out w hE
        rw [upd_self d1] at hK ⊢
        have e1:upd t 24 (.pointer (some ⟨B,1,none⟩)) 24=.pointer (some ⟨B,1,none⟩):=rfl
        clear hd d1
        refine wpOp_step rfl (fun K' hK'=>?_)
        go_simp
        exact hK' _ _ (hK (.int .u64 (b:Int)) w (Ext.refl _) rfl)
      | 5,_ =>
        have d1:t 25=.int .u64 (b:Int):=hd 4 (by decide) (by kernel_rfl)
        have hT:=HTV.out w hE
        rw [upd_self d1] at hK ⊢
        have e1:upd t 25 (.int .u64 (b:Int)) 25=.int .u64 (b:Int):=rfl
        clear hd d1
        refine wpOp_step rfl (fun K' hK'=>?_)
        go_simp
        go_wp2_with (go_at_call 48;(with_reducible refine (NB.out _ hT).mono ?_);rintro r wn ⟨v,rfl,hv,hE'⟩)
        first | exact hK v wn hE' hv | exact hK' _ _ (hK v wn hE' hv)
      | 6,_ =>
        refine wpOp_step rfl (fun K' hK'=>?_)
        go_simp
        exact hK' _ _ (hK (.pointer (some ⟨(B+1),0,none⟩)) w (Ext.refl _) rfl)
      | 7,_ =>
        have d1:t 27=.pointer (some ⟨(B+1),0,none⟩):=hd 6 (by decide) (by kernel_rfl)
        have c1:=HC2.out w hE
        rw [upd_self d1] at hK ⊢
        have e1:upd t 27 (.pointer (some ⟨(B+1),0,none⟩)) 27=.pointer (some ⟨(B+1),0,none⟩):=rfl
        clear hd d1
        refine wpOp_step rfl (fun K' hK'=>?_)
        go_simp
        exact hK' _ _ (hK (.int .u64 (c:Int)) w (Ext.refl _) rfl)
      | 8,_ =>
        have d1:t 28=.int .u64 (c:Int):=hd 7 (by decide) (by kernel_rfl)
        have hT:=HTV.out w hE
        rw [upd_self d1] at hK ⊢
        have e1:upd t 28 (.int .u64 (c:Int)) 28=.int .u64 (c:Int):=rfl
        clear hd d1
        refine wpOp_step rfl (fun K' hK'=>?_)
        go_simp
        go_wp2_with (go_at_call 48;(with_reducible refine (NC.out _ hT).mono ?_);rintro r wn ⟨v,rfl,hv,hE'⟩)
        first | exact hK v wn hE' hv | exact hK' _ _ (hK v wn hE' hv)
      | 9,_ =>
        refine wpOp_step rfl (fun K' hK'=>?_)
        go_simp
        exact hK' _ _ (hK (.pointer (some ⟨(B+1),1,none⟩)) w (Ext.refl _) rfl)
      | 10,_ =>
        have d1:t 30=.pointer (some ⟨(B+1),1,none⟩):=hd 9 (by decide) (by kernel_rfl)
        have c1:=HC3.out w hE
        rw [upd_self d1] at hK ⊢
        have e1:upd t 30 (.pointer (some ⟨(B+1),1,none⟩)) 30=.pointer (some ⟨(B+1),1,none⟩):=rfl
        clear hd d1
        refine wpOp_step rfl (fun K' hK'=>?_)
        go_simp
        exact hK' _ _ (hK (.int .u64 (d:Int)) w (Ext.refl _) rfl)
      | 11,_ =>
        have d1:t 31=.int .u64 (d:Int):=hd 10 (by decide) (by kernel_rfl)
        have hT:=HTV.out w hE
        rw [upd_self d1] at hK ⊢
        have e1:upd t 31 (.int .u64 (d:Int)) 31=.int .u64 (d:Int):=rfl
        clear hd d1
        refine wpOp_step rfl (fun K' hK'=>?_)
        go_simp
        go_wp2_with (go_at_call 48;(with_reducible refine (ND.out _ hT).mono ?_);rintro r wn ⟨v,rfl,hv,hE'⟩)
        first | exact hK v wn hE' hv | exact hK' _ _ (hK v wn hE' hv)
    case alloc =>
      intro k hk t w K hK
      match k,hk with
      | 0,_ =>
        refine wpOp_step rfl (fun K' hK'=>?_)
        go_simp
        exact hK' _ _ hK
      | 1,_ =>
        refine wpOp_step rfl (fun K' hK'=>?_)
        go_simp
        exact hK' _ _ hK
      | 2,_ =>
        refine wpOp_step rfl (fun K' hK'=>?_)
        go_simp
        exact hK' _ _ hK
      | 3,_ =>
        refine wpOp_step rfl (fun K' hK'=>?_)
        go_simp
        exact hK' _ _ hK
    case store =>
      intro k hk t w K g i bb nb ao N ca f hp hs hb hK
      obtain ⟨j0,b0,n0,o0,k0,c0,e0,hb⟩:=hb
      have z0:=hb.c0
      have z1:=hb.c1
      have z2:=hb.c2
      have z3:=hb.c3
      have z4:=hb.c4
      have y0:=hb.f 0
      have y1:=hb.f 1
      have y2:=hb.f 2
      have y3:=hb.f 3
      have y4:=hb.f 4
      match k,hk with
      | 0,_ =>
        have hp:t 5=.pointer (some ⟨g,0,none⟩):=hp
        have hs:t 23=.agg #[.int .i64 i,.bool bb,.bool nb,.slice ao N ca,.int .i64 f]:=hs
        rw [upd_self2 hp hs] at hK ⊢
        have e1:upd (upd t 5 (.pointer (some ⟨g,0,none⟩))) 23 (.agg #[.int .i64 i,.bool bb,.bool nb,.slice ao N ca,.int .i64 f]) 23=.agg #[.int .i64 i,.bool bb,.bool nb,.slice ao N ca,.int .i64 f]:=rfl
        have e2:upd (upd t 5 (.pointer (some ⟨g,0,none⟩))) 23 (.agg #[.int .i64 i,.bool bb,.bool nb,.slice ao N ca,.int .i64 f]) 5=.pointer (some ⟨g,0,none⟩):=rfl
        clear hp hs
        refine wpOp_step rfl (fun K' hK'=>?_)
        go_simp
        exact hK' _ _ hK
      | 1,_ =>
        have hp:t 6=.pointer (some ⟨g,0,none⟩):=hp
        have hs:t 26=.agg #[.int .i64 i,.bool bb,.bool nb,.slice ao N ca,.int .i64 f]:=hs
        rw [upd_self2 hp hs] at hK ⊢
        have e1:upd (upd t 6 (.pointer (some ⟨g,0,none⟩))) 26 (.agg #[.int .i64 i,.bool bb,.bool nb,.slice ao N ca,.int .i64 f]) 26=.agg #[.int .i64 i,.bool bb,.bool nb,.slice ao N ca,.int .i64 f]:=rfl
        have e2:upd (upd t 6 (.pointer (some ⟨g,0,none⟩))) 26 (.agg #[.int .i64 i,.bool bb,.bool nb,.slice ao N ca,.int .i64 f]) 6=.pointer (some ⟨g,0,none⟩):=rfl
        clear hp hs
        refine wpOp_step rfl (fun K' hK'=>?_)
        go_simp
        exact hK' _ _ hK
      | 2,_ =>
        have hp:t 7=.pointer (some ⟨g,0,none⟩):=hp
        have hs:t 29=.agg #[.int .i64 i,.bool bb,.bool nb,.slice ao N ca,.int .i64 f]:=hs
        rw [upd_self2 hp hs] at hK ⊢
        have e1:upd (upd t 7 (.pointer (some ⟨g,0,none⟩))) 29 (.agg #[.int .i64 i,.bool bb,.bool nb,.slice ao N ca,.int .i64 f]) 29=.agg #[.int .i64 i,.bool bb,.bool nb,.slice ao N ca,.int .i64 f]:=rfl
        have e2:upd (upd t 7 (.pointer (some ⟨g,0,none⟩))) 29 (.agg #[.int .i64 i,.bool bb,.bool nb,.slice ao N ca,.int .i64 f]) 7=.pointer (some ⟨g,0,none⟩):=rfl
        clear hp hs
        refine wpOp_step rfl (fun K' hK'=>?_)
        go_simp
        exact hK' _ _ hK
      | 3,_ =>
        have hp:t 8=.pointer (some ⟨g,0,none⟩):=hp
        have hs:t 32=.agg #[.int .i64 i,.bool bb,.bool nb,.slice ao N ca,.int .i64 f]:=hs
        rw [upd_self2 hp hs] at hK ⊢
        have e1:upd (upd t 8 (.pointer (some ⟨g,0,none⟩))) 32 (.agg #[.int .i64 i,.bool bb,.bool nb,.slice ao N ca,.int .i64 f]) 32=.agg #[.int .i64 i,.bool bb,.bool nb,.slice ao N ca,.int .i64 f]:=rfl
        have e2:upd (upd t 8 (.pointer (some ⟨g,0,none⟩))) 32 (.agg #[.int .i64 i,.bool bb,.bool nb,.slice ao N ca,.int .i64 f]) 8=.pointer (some ⟨g,0,none⟩):=rfl
        clear hp hs
        refine wpOp_step rfl (fun K' hK'=>?_)
        go_simp
        exact hK' _ _ hK
    case isnum =>
      intro k j hk hj e v w h
      match k,hk with
      | 0,_ =>
        have hall:∀ j,j<12→(#[23,26,29,32].getD 0 0)=(#[21,22,23,24,25,26,27,28,29,30,31,32].getD j 0)→j=2:=by decide
        obtain rfl:=hall j hj e
        obtain ⟨bb,nb,ao,N,ca,f,rfl,-⟩:=(show NumV w v _ _ from h)
        exact ⟨_,bb,nb,ao,N,ca,f,rfl⟩
      | 1,_ =>
        have hall:∀ j,j<12→(#[23,26,29,32].getD 1 0)=(#[21,22,23,24,25,26,27,28,29,30,31,32].getD j 0)→j=5:=by decide
        obtain rfl:=hall j hj e
        obtain ⟨bb,nb,ao,N,ca,f,rfl,-⟩:=(show NumV w v _ _ from h)
        exact ⟨_,bb,nb,ao,N,ca,f,rfl⟩
      | 2,_ =>
        have hall:∀ j,j<12→(#[23,26,29,32].getD 2 0)=(#[21,22,23,24,25,26,27,28,29,30,31,32].getD j 0)→j=8:=by decide
        obtain rfl:=hall j hj e
        obtain ⟨bb,nb,ao,N,ca,f,rfl,-⟩:=(show NumV w v _ _ from h)
        exact ⟨_,bb,nb,ao,N,ca,f,rfl⟩
      | 3,_ =>
        have hall:∀ j,j<12→(#[23,26,29,32].getD 3 0)=(#[21,22,23,24,25,26,27,28,29,30,31,32].getD j 0)→j=11:=by decide
        obtain rfl:=hall j hj e
        obtain ⟨bb,nb,ao,N,ca,f,rfl,-⟩:=(show NumV w v _ _ from h)
        exact ⟨_,bb,nb,ao,N,ca,f,rfl⟩
  · intro t g wx hE hF hg hne
    refine hK _ _ (Met.intro (hJ _ _ ?_))
    (repeat apply Exists.intro)
    refine ⟨?rel,rfl⟩
    exact ⟨g 0,g 1,g 2,g 3,t 23,t 26,t 29,t 32,(hg 0 (by decide)).1,(hg 1 (by decide)).1,(hg 2 (by decide)).1,(hg 3 (by decide)).1,⟨(hg 0 (by decide)).2.2,hF 2 (by decide),(hg 0 (by decide)).2.1⟩,⟨(hg 1 (by decide)).2.2,hF 5 (by decide),(hg 1 (by decide)).2.1⟩,⟨(hg 2 (by decide)).2.2,hF 8 (by decide),(hg 2 (by decide)).2.1⟩,⟨(hg 3 (by decide)).2.2,hF 11 (by decide),(hg 3 (by decide)).2.1⟩,⟨hne 0 1 (by decide) (by decide) (by decide),hne 0 2 (by decide) (by decide) (by decide),hne 0 3 (by decide) (by decide) (by decide),hne 1 2 (by decide) (by decide) (by decide),hne 1 3 (by decide) (by decide) (by decide),hne 2 3 (by decide) (by decide) (by decide)⟩,hE⟩
end Go.Proofs.YtkomhemjodbkpaaGreatDoor
