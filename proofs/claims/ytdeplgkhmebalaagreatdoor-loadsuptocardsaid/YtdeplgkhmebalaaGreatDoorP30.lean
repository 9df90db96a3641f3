/- The program's look at a module: globals. -/
import Derived.Test.YtdeplgkhmebalaaGreatDoorP29

set_option linter.unusedSimpArgs false
set_option linter.unusedVariables false
set_option maxHeartbeats 6000000
set_option maxRecDepth 100000
namespace Go.Proofs.YtdeplgkhmebalaaGreatDoor
open Go.RowKit
section
variable{I:LIds} {w:World} {s:Lkr}

theorem LSt.addGlob (h:LSt I w s): ∃tv gv xs,w.heap[I.kb]? =some (.cells #[ptrTo I.rb,tv,gv,ptrTo I.mb] 182)∧(∃ad cap,gv= .slice ad s.gl.length cap)∧some I.kb≠gv.ownBlock∧(∀W,Kp no w W→W.ownsRow I.B 256 2 gv s.gl.length xs)∧
  ∀W w5 v1 m ys x,Kp no w W→m=s.gl.length+1→ys=xs++glCells x→w5.ownsRow I.B 256 2 v1 m ys→W.grownBy w5 gv.ownBlock→(v1.ownBlock=gv.ownBlock∨v1.ownBlock=some W.heap.size)→
   LSt I (w5.setCell ⟨I.kb,2,none⟩ v1) {s with gl:=s.gl++[x]}∧Kp (upl I) w (w5.setCell ⟨I.kb,2,none⟩ v1):=by
 obtain⟨role,tv,gv,fv,glv,cv,tys,fs,h⟩:=h
 refine⟨tv,gv,s.gl.flatMap glCells,h.look,own_shape h.globs,fun e=> ?_,fun W k=>k.own h.globs (fun _ _ h=>h),fun W w5 v1 m ys x kW b1 b2 b3 b4 b5=>addGlob_end h kW x b1 b2 b3 b4 b5⟩
 have :=h.r5 _ e.symm;rw[h.r3]at this;cases this
theorem LSt.addVal (h:LSt I w s): ∃tv gv fv glv cv xs,w.heap[I.kb]? =some (.cells #[ptrTo I.rb,tv,gv,ptrTo I.mb] 182)∧w.heap[I.mb]? =some (.cells #[fv,glv,.int .i64 s.pages,cv] 121)∧(∃ad cap,glv= .slice ad s.vals.length cap)∧some I.mb≠glv.ownBlock∧some I.kb≠glv.ownBlock∧(∀W,Kp no w W→W.ownsRow I.B 38 1 glv s.vals.length xs)∧
  ∀W w5 v1 m ys (x:Nat),Kp no w W→m=s.vals.length+1→ys=xs++[.int .u64 (x:Nat)]→w5.ownsRow I.B 38 1 v1 m ys→W.grownBy w5 glv.ownBlock→(v1.ownBlock=glv.ownBlock∨v1.ownBlock=some W.heap.size)→
   LSt I (w5.setCell ⟨I.mb,1,none⟩ v1) {s with vals:=s.vals++[x]}∧Kp (upl I) w (w5.setCell ⟨I.mb,1,none⟩ v1):=by
 obtain⟨role,tv,gv,fv,glv,cv,tys,fs,h⟩:=h
 refine⟨tv,gv,fv,glv,cv,_,h.look,h.mod,own_shape h.vals,fun e=> ?_,fun e=> ?_,fun W k=>k.own h.vals (fun _ _ h=>h),fun W w5 v1 m ys x kW b1 b2 b3 b4 b5=>addVal_end h kW x b1 b2 b3 b4 b5⟩
 ·have :=h.r7 _ e.symm;rw[h.r2]at this;cases this
 ·have :=h.r7 _ e.symm;rw[h.r3]at this;cases this

theorem oneOf_mem {D al:List UInt8} {i j:Nat} {c:UInt8} (h:oneOfM D al i= .ok (c,j)):c∈al:=by
 unfold oneOfM at h
 split at h
 ·cases h
 ·split at h
  ·cases h;assumption
  ·cases h
theorem readValue_t {rb:Nat} {dv:Value} {D:List UInt8} {i:Nat} (h:RSt w rb dv D i) {t:UInt8} (ht:t∈[127,126]):
  Calls Tryz.prog 140 #[ptrTo rb,.int .u8 t.toNat] w fun r w'=>Gives w w' rb dv D (fun(n:Nat) v=>v= .int .u64 n) (.int .u64 0) (valueAtM D t i) r∧Kp (one rb) w w':=by
 simp only[List.mem_cons,List.not_mem_nil,or_false]at ht
 rcases ht with rfl |rfl
 ·exact readValue32 h
 ·exact readValue64 h

def globL (I:LIds) (s:Lkr):Except (Int×Int) Lkr:=
 match globM I.D s.i with
 | .error e=> .error e
 | .ok ((x,v),m)=> .ok {s with gl:=s.gl++[x],vals:=s.vals++[v],i:=m}

theorem globM_eq (D:List UInt8) (i:Nat):globM D i=(match oneOfM D [127,126] i with
 | .error e=> .error e
 | .ok (t,j)=>match oneOfM D [0,1] j with
  | .error e=> .error e
  | .ok (f,k)=>match valueAtM D t k with
   | .error e=> .error e
   | .ok (v,m)=> .ok (((t,f==1),v),m)):=rfl
theorem flag_eq (f:UInt8):((f.toNat:Int)==1)=(f==1):=by
 rw[Bool.eq_iff_iff]
 simp only[beq_iff_eq]
 constructor
 ·intro h;exact UInt8.toNat_inj.1 (by show f.toNat=1;omega)
 ·rintro rfl;rfl

theorem readGlobal_any (h:LSt I w s) (hgl:s.gl.length≤100) (hvl:s.vals.length≤100):Calls Tryz.prog 107 #[ptrTo I.kb] w fun r w'=>LDone I w w' (globL I s) r∧Kp (upl I) w w':=by
 have hM:globL I s=(match (match oneOfM I.D [127,126] s.i with
  | .error e=> .error e
  | .ok (t,j)=>match oneOfM I.D [0,1] j with
   | .error e=> .error e
   | .ok (f,k)=>match valueAtM I.D t k with
    | .error e=> .error e
    | .ok (v,m)=> .ok (((t,f==1),v),m):Rd ((UInt8×Bool)×Nat))with
  | .error e=> .error e
  | .ok ((x,v),m)=> .ok {s with gl:=s.gl++[x],vals:=s.vals++[v],i:=m}):=rfl
 generalize globL I s=R at *
 obtain⟨i0,hi0,hz0,hz1,hz2⟩:=info_parts info_global
 obtain⟨i1,hi1,hy0,hy1,hy2⟩:=info_parts info_u64
 obtain⟨tv,gv,hlo,hn1,hn2,hn3,-,-⟩:=h.lookAt
 obtain⟨hc,hf⟩:=cells_of hlo
 have h1o:=oneOf_any h.rd ⟨#[127,126]⟩ [127,126] rfl
 have hm1:=fun c j=>oneOf_mem (D:=I.D) (al:=[127,126]) (i:=s.i) (c:=c) (j:=j)
 generalize oneOfM I.D [127,126] s.i=Q1 at *
 have H:=hide h
 have HB:=hide h1o
 have HM:=hide hM
 clear h hlo h1o hM
 match Q1,HM,HB,hm1 with
 | .error e,HM,HB,_=>
  go_enter Tryz.func107,Tryz.ntmps107
  go_wp2_with fail
  refine HB.out.mono ?_
  rintro r w1 ⟨⟨fv,j,rfl,⟨fb,rfl,hfb,hfo⟩,h1⟩,k1⟩
  have HF:=hide hfo
  clear hfo h1
  go_wp2
  go_ret
  rw[HM.out]
  exact⟨⟨ptrTo fb,rfl,fb,rfl,hfb,HF.out⟩,H.out.lowRd k1⟩
 | .ok (t,j1),HM,HB,hm1=>
  have ht:=hide (hm1 t j1 rfl)
  clear hm1
  go_enter Tryz.func107,Tryz.ntmps107
  go_wp2_with fail
  refine HB.out.mono ?_
  rintro r w1 ⟨⟨v,rfl,rfl,h1⟩,k1⟩
  have h2:=H.out.read k1 h1
  have H2:=hide h2
  have HK1:=hide (H.out.lowRd k1)
  have hs1:=k1.size
  clear h1 k1 hc hf
  obtain⟨tv1,gv1,hlo1,-,-,-,-,-⟩:=h2.lookAt
  obtain⟨hc,hf⟩:=cells_of hlo1
  have h2o:=oneOf_any h2.rd ⟨#[0,1]⟩ [0,1] rfl
  have hM:=HM.out
  simp only at h2o hM
  generalize oneOfM I.D [0,1] j1=Q2 at *
  have HB2:=hide h2o
  have HM:=hide hM
  clear h2 hlo1 h2o hM
  match Q2,HM,HB2 with
  | .error e,HM,HB2=>
   go_wp2_with fail
   refine HB2.out.mono ?_
   rintro r w2 ⟨⟨fv,j,rfl,⟨fb,rfl,hfb,hfo⟩,h1⟩,k1⟩
   have HF:=hide hfo
   have hfb':w.heap.size≤fb:=Nat.le_trans hs1 hfb
   clear hfo h1
   go_wp2
   go_ret
   rw[HM.out]
   exact⟨⟨ptrTo fb,rfl,fb,rfl,hfb',HF.out⟩,HK1.out.trans (H2.out.lowRd k1)⟩
  | .ok (f,j2),HM,HB2=>
   go_wp2_with fail
   refine HB2.out.mono ?_
   rintro r w2 ⟨⟨v,rfl,rfl,h1⟩,k1⟩
   have h3:=H2.out.read k1 h1
   have H3:=hide h3
   have HK2:=hide (HK1.out.trans (H2.out.lowRd k1))
   have hs2:=Nat.le_trans hs1 k1.size
   clear h1 k1 hc hf
   obtain⟨tv2,gv2,hlo2,-,-,-,-,-⟩:=h3.lookAt
   obtain⟨hc,hf⟩:=cells_of hlo2
   have h3o:=readValue_t h3.rd ht.out
   have hM:=HM.out
   simp only at h3o hM
   generalize valueAtM I.D t j2=Q3 at *
   have HB3:=hide h3o
   have HM:=hide hM
   clear h3 hlo2 h3o hM
   match Q3,HM,HB3 with
   | .error e,HM,HB3=>
    go_wp2_with fail
    refine HB3.out.mono ?_
    rintro r w3 ⟨⟨fv,j,rfl,⟨fb,rfl,hfb,hfo⟩,h1⟩,k1⟩
    have HF:=hide hfo
    have hfb':w.heap.size≤fb:=Nat.le_trans hs2 hfb
    clear hfo h1
    go_wp2
    go_ret
    rw[HM.out]
    exact⟨⟨ptrTo fb,rfl,fb,rfl,hfb',HF.out⟩,HK2.out.trans (H3.out.lowRd k1)⟩
   | .ok (x,j3),HM,HB3=>
    go_wp2_with fail
    refine HB3.out.mono ?_
    rintro r w3 ⟨⟨v,rfl,rfl,h1⟩,k1⟩
    have h4:=H3.out.read k1 h1
    have HK3:=hide (HK2.out.trans (H3.out.lowRd k1))
    have hs3:=Nat.le_trans hs2 k1.size
    clear h1 k1 hc hf
    obtain⟨tv4,gv4,xs4,hlo4,⟨adg,capg,rfl⟩,hnk,hown4,hadd4⟩:=h4.addGlob
    obtain⟨S,hSd⟩: ∃S:World→Prop,S=fun w'=> ∀q,w'.cell? ⟨I.kb,q,none⟩= #[ptrTo I.rb,tv4,.slice adg s.gl.length capg,ptrTo I.mb][q]? :=⟨_,rfl⟩
    have hSk: ∀W,Kp (fun b=>some b=(Value.slice adg s.gl.length capg).ownBlock) w3 W→S W:=fun W k=>by
     rw[hSd];exact(cells_of (k.blk hlo4 hnk)).1
    have hkf: ∀W,Kp (fun b=>some b=(Value.slice adg s.gl.length capg).ownBlock) w3 W→W.frozen? ⟨I.kb,2,none⟩=false:=fun W k=>(cells_of (k.blk hlo4 hnk)).2 2
    have hB4:=h4.base
    have HSk:=hide hSk
    have HSd:=hide hSd
    have HKf:=hide hkf
    have HOw:=hide hown4
    have HAd:=hide hadd4
    clear h4 hlo4 hown4 hadd4 hSk hSd hkf
    go_wp2_with fail
    refine wp_region_S 14 (S) (by kernel_rfl) (n:=15) rfl rfl ?hS (fun hS=> ?_)
    case hS=>exact HSk.out _ ((Kp.refl _ _).drew)
    have hSd:=HSd.out
    subst hSd
    refine tk 0 [] rfl (by kernel_rfl) rfl (fun _ _ _ h=>h) hS (fun _ h=>by(try dsimp only at h);go_simp;all_goals with_reducible rfl) ?_
    simp only[pS]
    refine tk 1 [] rfl (by kernel_rfl) rfl (fun _ _ _ h=>h) hS (fun _ h=>by(try dsimp only at h);go_simp;all_goals with_reducible rfl) ?_
    simp only[pS]
    refine tk 2 [] rfl (by kernel_rfl) rfl (fun _ _ _ h=>h) hS (fun _ h=>by(try dsimp only at h);go_simp;all_goals with_reducible rfl) ?_
    simp only[pS]
    refine tk 3 [] rfl (by kernel_rfl) rfl (fun _ _ _ h=>h) hS (fun _ h=>by(try dsimp only at h);go_simp;all_goals with_reducible rfl) ?_
    simp only[pS]
    refine tk 4 [] rfl (by kernel_rfl) rfl (fun _ _ _ h=>h) hS (fun _ h=>by(try dsimp only at h);go_simp;all_goals with_reducible rfl) ?_
    simp only[pS]
    refine tk 5 [] rfl (by kernel_rfl) rfl (fun _ _ _ h=>h) hS (fun _ h=>by(try dsimp only at h);go_simp;all_goals with_reducible rfl) ?_
    simp only[pS]
    refine tk 6 [] rfl (by kernel_rfl) rfl (fun _ _ _ h=>h) hS (fun _ h=>by(try dsimp only at h);go_simp;all_goals with_reducible rfl) ?_
    simp only[pS]
    refine tk 7 [] rfl (by kernel_rfl) rfl (fun _ _ _ h=>h) hS (fun _ h=>by(try dsimp only at h);go_simp;all_goals with_reducible rfl) ?_
    simp only[pS]
    refine tk 8 [] rfl (by kernel_rfl) rfl (fun _ _ _ h=>h) hS (fun _ h=>by(try dsimp only at h);go_simp;all_goals with_reducible rfl) ?_
    simp only[pS]
    refine tk 9 [] rfl (by kernel_rfl) rfl (fun _ _ _ h=>h) hS (fun _ h=>by(try dsimp only at h);go_simp;all_goals with_reducible rfl) ?_
    simp only[pS]
    refine wpAnyS_one 10 rfl (by kernel_rfl) rfl (fun K hK=> ?_)
    go_simp
    refine hK _ _ (HSk.out _ (((Kp.refl _ _).drew).alloc _)) (fun hS=> ?_)
    clear hK K
    refine wpAnyS_one 11 rfl (by kernel_rfl) rfl (fun K hK=> ?_)
    refine step_append_at _ (by rfl) _ _ _ (by rfl) I.B 256 i0 _ 2 2 Tryz.underlying180 hi0 hz0 hz1 hz2 rfl (by omega) _ s.gl.length _ (by rfl) (HOw.out _ (((Kp.refl _ _).drew).alloc _)) (.slice (some ⟨w3.heap.size,0,none⟩) 1 1) 1 [.int .u8 t.toNat,.bool ((f.toNat:Int)==1)] (by rfl) (RowAt.allocAt rfl #[.int .u8 t.toNat,.bool ((f.toNat:Int)==1)] _ 1 2 rfl) (by simp[Value.oneCell']) (by simp only[maxLen];omega) (by omega) (by simp;omega) ?_
    intro v1 w5 hown1 hgrow hat
    have k5:Kp (fun b=>some b=(Value.slice adg s.gl.length capg).ownBlock) w3 w5:=(((Kp.refl _ _).drew).alloc _).grown hgrow (fun k e=> .inl e.symm)
    have hkf:=HKf.out _ k5
    refine hK _ _ (HSk.out _ k5) (fun hS=> ?_)
    clear hK K k5
    obtain⟨ad1,cap1,rfl⟩:=own_shape hown1
    refine tk 12 [13] rfl (by kernel_rfl) rfl (fun _ _ _ h=>h) hS (fun _ h=>by(try dsimp only at h);go_simp;all_goals with_reducible rfl) ?_
    simp only[pS]
    refine tk 13 [] rfl (by kernel_rfl) rfl (fun _ _ _ h=>h) hS (fun _ h=>by(try dsimp only at h);go_simp;all_goals with_reducible rfl) ?_
    simp only[pS]
    refine wpAnyS_end 14 rfl (by kernel_rfl) rfl (by kernel_rfl) (fun K hK=> ?_)
    go_simp
    refine hK _ _ ?_
    clear hK K
    refine wpAnyS_done (by kernel_rfl) ?_ _
    obtain⟨h8,k8⟩:=HAd.out _ _ _ _ _ (t,f==1) (((Kp.refl no w3).drew).alloc _) rfl (by rw[flag_eq];rfl) hown1 hgrow hat
    generalize World.setCell w5 ⟨I.kb,2,none⟩ (.slice ad1 (s.gl.length+1) cap1)=w6 at *
    have HK8:=hide (HK3.out.trans k8)
    clear k8 hown1 hgrow hat hS HSk HAd HSd HKf HOw hkf
    obtain⟨tv5,gv5,fv5,glv5,cv5,xs5,hlo5,hmo5,⟨adg5,capg5,rfl⟩,hnm5,hnk5,hown5,hadd5⟩:=h8.addVal
    obtain⟨S,hSd⟩: ∃S:World→Prop,S=fun w'=>(∀q,w'.cell? ⟨I.kb,q,none⟩= #[ptrTo I.rb,tv5,gv5,ptrTo I.mb][q]?)∧w'.cell? ⟨I.mb,1,none⟩=some (.slice adg5 s.vals.length capg5):=⟨_,rfl⟩
    have hSk: ∀W,Kp (fun b=>some b=(Value.slice adg5 s.vals.length capg5).ownBlock) w6 W→S W:=fun W k=>by
     rw[hSd];exact⟨(cells_of (k.blk hlo5 hnk5)).1,(cells_of (k.blk hmo5 hnm5)).1 1⟩
    have hkf: ∀W,Kp (fun b=>some b=(Value.slice adg5 s.vals.length capg5).ownBlock) w6 W→W.frozen? ⟨I.mb,1,none⟩=false:=fun W k=>(cells_of (k.blk hmo5 hnm5)).2 1
    have hB5:=h8.base
    have HSk:=hide hSk
    have HSd:=hide hSd
    have HKf:=hide hkf
    have HOw:=hide hown5
    have HAd:=hide hadd5
    clear h8 hlo5 hmo5 hown5 hadd5 hSk hSd hkf
    go_wp2_with fail
    refine wp_region_S 16 (S) (by kernel_rfl) (n:=17) rfl rfl ?hS (fun hS=> ?_)
    case hS=>exact HSk.out _ ((Kp.refl _ _).drew)
    have hSd:=HSd.out
    subst hSd
    refine tk 0 [] rfl (by kernel_rfl) rfl (fun _ _ _ h=>h) hS (fun _ h=>by(try dsimp only at h);go_simp;all_goals with_reducible rfl) ?_
    simp only[pS]
    refine tk 1 [] rfl (by kernel_rfl) rfl (fun _ _ _ h=>h) hS (fun _ h=>by(try dsimp only at h);go_simp;all_goals with_reducible rfl) ?_
    simp only[pS]
    refine tk 2 [] rfl (by kernel_rfl) rfl (fun _ _ _ h=>h) hS (fun _ h=>by(try dsimp only at h);go_simp;all_goals with_reducible rfl) ?_
    simp only[pS]
    refine tk 3 [] rfl (by kernel_rfl) rfl (fun _ _ _ h=>h) hS (fun _ h=>by(try dsimp only at h);go_simp;all_goals with_reducible rfl) ?_
    simp only[pS]
    refine tk 4 [] rfl (by kernel_rfl) rfl (fun _ _ _ h=>h) hS (fun _ h=>by(try dsimp only at h);go_simp;all_goals with_reducible rfl) ?_
    simp only[pS]
    refine tk 5 [] rfl (by kernel_rfl) rfl (fun _ _ _ h=>h) hS (fun _ h=>by(try dsimp only at h);go_simp;all_goals with_reducible rfl) ?_
    simp only[pS]
    refine tk 6 [] rfl (by kernel_rfl) rfl (fun _ _ _ h=>h) hS (fun _ h=>by(try dsimp only at h);go_simp;all_goals with_reducible rfl) ?_
    simp only[pS]
    refine tk 7 [] rfl (by kernel_rfl) rfl (fun _ _ _ h=>h) hS (fun _ h=>by(try dsimp only at h);go_simp;all_goals with_reducible rfl) ?_
    simp only[pS]
    refine tk 8 [] rfl (by kernel_rfl) rfl (fun _ _ _ h=>h) hS (fun _ h=>by(try dsimp only at h);go_simp;all_goals with_reducible rfl) ?_
    simp only[pS]
    refine tk 9 [] rfl (by kernel_rfl) rfl (fun _ _ _ h=>h) hS (fun _ h=>by(try dsimp only at h);go_simp;all_goals with_reducible rfl) ?_
    simp only[pS]
    refine tk 10 [] rfl (by kernel_rfl) rfl (fun _ _ _ h=>h) hS (fun _ h=>by(try dsimp only at h);go_simp;all_goals with_reducible rfl) ?_
    simp only[pS]
    refine tk 11 [] rfl (by kernel_rfl) rfl (fun _ _ _ h=>h) hS (fun _ h=>by(try dsimp only at h);go_simp;all_goals with_reducible rfl) ?_
    simp only[pS]
    refine wpAnyS_one 12 rfl (by kernel_rfl) rfl (fun K hK=> ?_)
    go_simp
    refine hK _ _ (HSk.out _ (((Kp.refl _ _).drew).alloc _)) (fun hS=> ?_)
    clear hK K
    refine wpAnyS_one 13 rfl (by kernel_rfl) rfl (fun K hK=> ?_)
    refine step_append_at _ (by rfl) _ _ _ (by rfl) I.B 38 i1 _ 1 8 Tryz.underlying53 hi1 hy0 hy1 hy2 rfl (by omega) _ s.vals.length _ (by rfl) (HOw.out _ (((Kp.refl _ _).drew).alloc _)) (.slice (some ⟨w6.heap.size,0,none⟩) 1 1) 1 [.int .u64 x] (by rfl) (RowAt.allocAt rfl #[.int .u64 x] _ 1 1 rfl) (by simp[Value.oneCell']) (by simp only[maxLen];omega) (by omega) (by simp;omega) ?_
    intro v2 w7 hown1 hgrow hat
    have k5:Kp (fun b=>some b=(Value.slice adg5 s.vals.length capg5).ownBlock) w6 w7:=(((Kp.refl _ _).drew).alloc _).grown hgrow (fun k e=> .inl e.symm)
    have hkf:=HKf.out _ k5
    refine hK _ _ (HSk.out _ k5) (fun hS=> ?_)
    clear hK K k5
    obtain⟨ad2,cap2,rfl⟩:=own_shape hown1
    refine tk 14 [15] rfl (by kernel_rfl) rfl (fun _ _ _ h=>h) hS (fun _ h=>by(try dsimp only at h);go_simp;all_goals with_reducible rfl) ?_
    simp only[pS]
    refine tk 15 [] rfl (by kernel_rfl) rfl (fun _ _ _ h=>h) hS (fun _ h=>by(try dsimp only at h);go_simp;all_goals with_reducible rfl) ?_
    simp only[pS]
    refine wpAnyS_end 16 rfl (by kernel_rfl) rfl (by kernel_rfl) (fun K hK=> ?_)
    go_simp
    refine hK _ _ ?_
    clear hK K
    refine wpAnyS_done (by kernel_rfl) ?_ _
    obtain⟨h9,k9⟩:=HAd.out _ _ _ _ _ x (((Kp.refl no w6).drew).alloc _) rfl rfl hown1 hgrow hat
    have HK9:=hide (HK8.out.trans k9)
    have H9:=hide h9
    clear h9 k9 hown1 hgrow hat hS HSk HAd HSd HKf HOw hkf
    go_wp2
    go_ret
    rw[HM.out]
    exact⟨⟨rfl,H9.out⟩,HK9.out⟩
end

end Go.Proofs.YtdeplgkhmebalaaGreatDoor

set_option linter.unusedSimpArgs false
set_option linter.unusedVariables false
set_option maxHeartbeats 6000000
set_option maxRecDepth 100000
namespace Go.Proofs.YtdeplgkhmebalaaGreatDoor
open Go.RowKit
section
variable{I:LIds} {w:World} {s:Lkr}

def globsL (I:LIds) (s:Lkr):Except (Int×Int) Lkr:=
 match belowM I.D 9 s.i with
 | .error e=> .error e
 | .ok (n,j)=>match manyM (globM I.D) n j with
  | .error e=> .error e
  | .ok (l,k)=> .ok {s with gl:=s.gl++l.map (·.1),vals:=s.vals++l.map (·.2),i:=k}

theorem readGlobals_any (h:LSt I w s) (hgl:s.gl.length≤50) (hvl:s.vals.length≤50):Calls Tryz.prog 78 #[ptrTo I.kb] w fun r w'=>LDone I w w' (globsL I s) r∧Kp (upl I) w w':=by
 have hM:globsL I s=(match belowM I.D 9 s.i with
  | .error e=> .error e
  | .ok (n,j)=>match manyM (globM I.D) n j with
   | .error e=> .error e
   | .ok (l,k)=> .ok {s with gl:=s.gl++l.map (·.1),vals:=s.vals++l.map (·.2),i:=k}):=rfl
 generalize globsL I s=R at *
 obtain⟨tv,gv,hlo,hn1,hn2,hn3,-,-⟩:=h.lookAt
 obtain⟨hc,hf⟩:=cells_of hlo
 have hbe:=below_any h.rd 9 (by decide) (by decide)
 have hlt:=fun n j=>below_lt (D:=I.D) (lim:=9) (i:=s.i) (n:=n) (j:=j)
 generalize belowM I.D 9 s.i=Q at *
 have H:=hide h
 have HB:=hide hbe
 have HM:=hide hM
 clear h hlo hbe hM
 match Q,HM,HB,hlt with
 | .error e,HM,HB,_=>
  go_enter Tryz.func78,Tryz.ntmps78
  go_wp2_with fail
  refine HB.out.mono ?_
  rintro r w1 ⟨⟨fv,j,rfl,⟨fb,rfl,hfb,hfo⟩,h1⟩,k1⟩
  have HF:=hide hfo
  clear hfo h1
  go_wp2
  go_ret
  rw[HM.out]
  exact⟨⟨ptrTo fb,rfl,fb,rfl,hfb,HF.out⟩,H.out.lowRd k1⟩
 | .ok (n,j),HM,HB,hlt=>
  have hn:=(hlt n j rfl).1
  clear hlt
  go_enter Tryz.func78,Tryz.ntmps78
  go_wp2_with fail
  refine HB.out.mono ?_
  rintro r w1 ⟨⟨v,rfl,rfl,h1⟩,k1⟩
  have H1:=hide (H.out.read k1 h1)
  have HK1:=hide (H.out.lowRd k1)
  clear h1 k1 hc hf
  go_wp2
  go_loopw [18] (fun kv wr=> ∃(k jj:Nat) (l:List ((UInt8×Bool)×Nat)),k≤n∧kv= .int .i64 k∧l.length=k∧LSt I wr {s with i:=jj,gl:=s.gl++l.map (·.1),vals:=s.vals++l.map (·.2)}∧Kp (upl I) w wr∧manyM (globM I.D) n j=preR l (manyM (globM I.D) (n -k) jj)) (fun kv _=>n - (intOf kv).toNat)
  case atStart=>exact⟨0,j,[],by omega,rfl,rfl,by simpa using H1.out,HK1.out,by rw[preR_nil];rfl⟩
  case round=>
   obtain⟨k,jj,l,hk,rfl,hlk,hst,hkp,hlab⟩:=hrel
   have HS:=hide hst
   have HK:=hide hkp
   have HLk:=hide hlk
   have hszr:=hkp.size
   by_cases hkn:k<n
   ·rw[show n -k=(n -k -1)+1 by omega,preR_step]at hlab
    have hone:=readGlobal_any hst (by simp[hlk];omega) (by simp[hlk];omega)
    unfold globL at hone
    simp only at hone
    generalize globM I.D jj=Q2 at *
    have HO:=hide hone
    have HL:=hide hlab
    clear hone hlab hst hkp hlk
    match Q2,HL,HO with
    | .error e,HL,HO=>
     go_wp2_with fail
     refine HO.out.mono ?_
     rintro r w3 ⟨⟨fv,rfl,fb,rfl,hfb,hfo⟩,k3⟩
     have HF:=hide hfo
     have hfb':w.heap.size≤fb:=Nat.le_trans hszr hfb
     have HK3:=hide (HK.out.trans k3)
     clear hfo k3
     go_wp2
     go_ret
     rw[HM.out]
     show LDone _ _ _ (match manyM (globM I.D) n j with | .error e=> .error e| .ok (l,k)=> .ok {s with gl:=s.gl++l.map (·.1),vals:=s.vals++l.map (·.2),i:=k}) _∧_
     rw[HL.out]
     exact⟨⟨ptrTo fb,rfl,fb,rfl,hfb',HF.out⟩,HK3.out⟩
    | .ok ((x,v),j2),HL,HO=>
     go_wp2_with fail
     refine HO.out.mono ?_
     rintro r w3 ⟨⟨rfl,h3⟩,k3⟩
     have H3:=hide h3
     have HK3:=hide (HK.out.trans k3)
     clear h3 k3
     go_wp2
     go_roundw
     case rel=>exact⟨k+1,j2,l++[(x,v)],by omega,by go_num,by simp[HLk.out],by simpa using H3.out,HK3.out,by rw[HL.out,show n - (k+1)=n -k -1 by omega]⟩
     case measure=>simp[intOf];omega
   ·obtain rfl :k=n:=by omega
    rw[Nat.sub_self]at hlab
    have HL:=hide hlab
    clear hlab hst hkp hlk
    go_wp2
    go_ret
    rw[HM.out]
    show LDone _ _ _ (match manyM (globM I.D) k j with | .error e=> .error e| .ok (l,k)=> .ok {s with gl:=s.gl++l.map (·.1),vals:=s.vals++l.map (·.2),i:=k}) _∧_
    rw[HL.out,manyM,preR,List.append_nil]
    exact⟨⟨rfl,HS.out⟩,HK.out⟩
end

theorem look_len {c:Ctx} (hres: ∀k,k<c.funcs.length→(c.funcs.getD k ([],[])).1.length≤8∧(c.funcs.getD k ([],[])).2.length≤1): ∀(F N:Nat) (s s':Bd),Sz N s→lookM c F s= .ok s'→s.i≤s'.i∧s'.code.length≤N+18*(s'.i -s.i):=by
 intro F
 induction F with
 |zero=>intro N s s' z h;cases h;exact⟨Nat.le_refl _,Nat.le_trans z.cd (Nat.le_add_right _ _)⟩
 |succ F ih=>
  intro N s s' z h
  rw[lookM]at h
  split at h
  ·split at h
   ·cases h
   ·cases h;exact⟨Nat.le_refl _,Nat.le_trans z.cd (Nat.le_add_right _ _)⟩
  ·rename_i hb
   split at h
   ·cases h
   ·rename_i s1 h1
    obtain⟨z1,hi⟩:=step_keep hb z hres h1
    obtain⟨h2,h3⟩:=ih _ _ _ z1 h
    exact⟨by omega,by omega⟩

end Go.Proofs.YtdeplgkhmebalaaGreatDoor

set_option linter.unusedSimpArgs false
set_option linter.unusedVariables false
set_option maxHeartbeats 2000000
set_option maxRecDepth 100000
namespace Go.Proofs.YtdeplgkhmebalaaGreatDoor
open Go.RowKit

theorem heap_alloc_at {w:World} {n:Nat} (h:w.heap.size=n) (o:Obj):(w.alloc o).heap[n]? =some o:=by
 subst h;exact heap_alloc_new w o

theorem newBody_any {w:World} {kb pb mb:Nat} {rv0 tv gv:Value} {ad1 ad2:Option Addr} {l1 c1 l2 c2:Nat} (hk:w.heap[kb]? =some (.cells #[rv0,tv,gv,ptrTo mb] 182)) (hgv: ∃ad n cap,gv= .slice ad n cap):
  Calls Tryz.prog 144 #[ptrTo kb,ptrTo pb,.agg #[.slice ad1 l1 c1,.slice ad2 l2 c2]] w fun r w'=> ∃bb g,r= .returned (ptrTo bb)∧w.heap.size≤bb∧w.heap.size≤g∧bb≠g∧g<w'.heap.size∧
   w'.heap[bb]? =some (.cells #[ptrTo pb,ptrTo mb,gv,.slice none 0 0,.slice none 0 0,.slice (some ⟨g,0,none⟩) 1 1,.int .i64 0,.bool false] 263)∧
   w'.heap[g]? =some (.cells #[.int .i64 0,.slice ad2 l2 c2,.int .i64 0,.int .i64 0,.slice none 0 0] 298)∧Kp no w w':=by
 obtain⟨ad,n,cap,rfl⟩:=hgv
 have hlt:=lt_of_blk hk
 have hS: ∀W,Kp no w W→ ∀q,W.cell? ⟨kb,q,none⟩= #[rv0,tv,.slice ad n cap,ptrTo mb][q]? :=fun W k=>(cells_of (k.blk hk (fun h=>h))).1
 have HS:=hide hS
 clear hS hk
 go_enter Tryz.func144,Tryz.ntmps144
 go_wp2_with fail
 refine wp_region_S 12 (fun w'=> ∀q,w'.cell? ⟨kb,q,none⟩= #[rv0,tv,.slice ad n cap,ptrTo mb][q]?) (by kernel_rfl) (n:=12) rfl rfl ?hS (fun hS=> ?_)
 case hS=>exact HS.out _ ((((Kp.refl no w).alloc _)).drew)
 refine tk 0 [] rfl (by kernel_rfl) rfl (fun _ _ _ h=>h) hS (fun _ h=>by(try dsimp only at h);go_simp;all_goals with_reducible rfl) ?_
 simp only[pS]
 refine tk 1 [] rfl (by kernel_rfl) rfl (fun _ _ _ h=>h) hS (fun _ h=>by(try dsimp only at h);go_simp;all_goals with_reducible rfl) ?_
 simp only[pS]
 refine tk 2 [] rfl (by kernel_rfl) rfl (fun _ _ _ h=>h) hS (fun _ h=>by(try dsimp only at h);go_simp;all_goals with_reducible rfl) ?_
 simp only[pS]
 refine tk 3 [] rfl (by kernel_rfl) rfl (fun _ _ _ h=>h) hS (fun _ h=>by(try dsimp only at h);go_simp;all_goals with_reducible rfl) ?_
 simp only[pS]
 refine tk 4 [] rfl (by kernel_rfl) rfl (fun _ _ _ h=>h) hS (fun _ h=>by(try dsimp only at h);go_simp;all_goals with_reducible rfl) ?_
 simp only[pS]
 refine tk 5 [] rfl (by kernel_rfl) rfl (fun _ _ _ h=>h) hS (fun _ h=>by(try dsimp only at h);go_simp;all_goals with_reducible rfl) ?_
 simp only[pS]
 refine tk 6 [] rfl (by kernel_rfl) rfl (fun _ _ _ h=>h) hS (fun _ h=>by(try dsimp only at h);go_simp;all_goals with_reducible rfl) ?_
 simp only[pS]
 refine tk 7 [] rfl (by kernel_rfl) rfl (fun _ _ _ h=>h) hS (fun _ h=>by(try dsimp only at h);go_simp;all_goals with_reducible rfl) ?_
 simp only[pS]
 refine tk 8 [] rfl (by kernel_rfl) rfl (fun _ _ _ h=>h) hS (fun _ h=>by(try dsimp only at h);go_simp;all_goals with_reducible rfl) ?_
 simp only[pS]
 refine tk 9 [] rfl (by kernel_rfl) rfl (fun _ _ _ h=>h) hS (fun _ h=>by(try dsimp only at h);go_simp;all_goals with_reducible rfl) ?_
 simp only[pS]
 refine wpAnyS_one 10 rfl (by kernel_rfl) rfl (fun K hK=> ?_)
 go_simp
 refine hK _ _ (HS.out _ (((((Kp.refl no w).alloc _)).drew).alloc _)) (fun hS=> ?_)
 clear hK K
 refine tk 11 [] rfl (by kernel_rfl) rfl (fun _ _ _ h=>h) hS (fun _ h=>by(try dsimp only at h);go_simp;all_goals with_reducible rfl) ?_
 simp only[pS]
 refine wpAnyS_done (by kernel_rfl) ?_ _
 clear hS HS
 go_wp2
 go_ret
 refine⟨w.heap.size+1,w.heap.size+2,rfl,by omega,by omega,by omega,by simp,?_,?_,?_⟩
 ·exact heap_alloc_old (w:=(w.alloc _).alloc _) (heap_alloc_at (by simp) _)
 ·exact heap_alloc_at (w:=(w.alloc _).alloc _) (by simp) _
 ·exact((((Kp.refl no w).alloc _).alloc _).alloc _).drew

end Go.Proofs.YtdeplgkhmebalaaGreatDoor

set_option linter.unusedSimpArgs false
set_option linter.unusedVariables false
namespace Go.Proofs.YtdeplgkhmebalaaGreatDoor
open Go.RowKit
section
variable{I:LIds} {w w':World} {s:Lkr} {role:Nat→Nat} {tv gv fv glv cv:Value} {tys:List TyV} {fs:List FnV}

theorem LStG.far (h:LStG I w s role tv gv fv glv cv tys fs) (k':Kp (fun b=>(fun r=>r=9) (role b)) w w'):LStG I w' s role tv gv fv glv cv tys fs:=
 ⟨Nat.le_trans h.base k'.size,(h.kRd (X:=fun r=>r=9) k' (by decide) (by decide):),(h.kLook (X:=fun r=>r=9) k' (by decide):),(h.kMod (X:=fun r=>r=9) k' (by decide):),(h.kTypes (X:=fun r=>r=9) k' (by decide):),(h.kGlobs (X:=fun r=>r=9) k' (by decide):),(h.kFuncs (X:=fun r=>r=9) k' (by decide):),(h.kVals (X:=fun r=>r=9) k' (by decide):),(h.kCode (X:=fun r=>r=9) k' (by decide):),h.eqT,h.eqF,
  h.kTyB (X:=fun r=>r=9) k' (by decide),h.kFnB (X:=fun r=>r=9) k' (by decide),h.r1,h.r2,h.r3,h.r4,h.r5,h.r6,h.r7,h.r8,h.kTyR (X:=fun r=>r=9) k',h.kFnR (X:=fun r=>r=9) k',h.low,h.dvB,h.tyN,h.fnN⟩

theorem LStG.fn (h:LStG I w s role tv gv fv glv cv tys fs) {n:Nat} (hn:n<s.fns.length): ∃a cap x,fv= .slice (some ⟨a,0,none⟩) s.fns.length cap∧s.fns.length≤cap∧fs[n]? =some x∧x.1=s.fns.getD n ⟨([],[]),0,0⟩∧x∈fs∧
  w.cell? ⟨a,n*4,none⟩=some x.2.1∧w.cell? ⟨a,n*4+1,none⟩=some x.2.2∧w.cell? ⟨a,n*4+2,none⟩=some (.int .i64 x.1.locals)∧w.cell? ⟨a,n*4+3,none⟩=some (.int .i64 x.1.entry)∧(∀k,w.frozen? ⟨a,k,none⟩=false):=by
 have hl:s.fns.length=fs.length:=by rw[h.eqF,List.length_map]
 obtain⟨x,hx⟩: ∃x,fs[n]? =some x:=⟨fs[n]'(by omega),by simp[List.getElem?_eq_getElem (show n<fs.length by omega)]⟩
 have hm:x∈fs:=List.mem_of_getElem? hx
 have hty:s.fns.getD n ⟨([],[]),0,0⟩=x.1:=by rw[h.eqF];simp[List.getD_eq_getElem?_getD,List.getElem?_map,hx]
 obtain⟨a,cap,hfv,-,-⟩:=h.funcs.form (by omega)
 obtain⟨ad',cap',hfv',hcap'⟩:=(RowAt.own h.funcs).shape
 subst hfv
 cases hfv'
 have hc: ∀j,j<4→w.cell? ⟨a,n*4+j,none⟩=(fnCells x)[j]? :=by
  intro j hj
  rw[h.funcs.cellAt (n*4+j) (by omega),flat_get fnLen fs n j hj,hx];rfl
 exact⟨a,cap,x,rfl,hcap',hx,hty.symm,hm,hc 0 (by decide),hc 1 (by decide),hc 2 (by decide),hc 3 (by decide),fun k=>h.funcs.frozenAt k⟩

theorem LStG.setFn (h:LStG I w s role tv gv fv glv cv tys fs) {n a cap:Nat} {x:FnV} (hfv:fv= .slice (some ⟨a,0,none⟩) s.fns.length cap) (hx:fs[n]? =some x) (L En:Nat):
  LStG I ((w.setCell ⟨a,n*4+2,none⟩ (.int .i64 L)).setCell ⟨a,n*4+3,none⟩ (.int .i64 En)) {s with fns:=s.fns.set n ⟨x.1.typ,L,En⟩} role tv gv fv glv cv tys (fs.set n (⟨x.1.typ,L,En⟩,x.2.1,x.2.2)):=by
 subst hfv
 have hm:x∈fs:=List.mem_of_getElem? hx
 have k:Kp (fun b=>(fun r=>r=6) (role b)) w ((w.setCell ⟨a,n*4+2,none⟩ (.int .i64 L)).setCell ⟨a,n*4+3,none⟩ (.int .i64 En)):=
  Kp.setAt (S:=fun b=>(fun r=>r=6) (role b)) (Kp.setAt (S:=fun b=>(fun r=>r=6) (role b)) (Kp.refl _ w) (b:=a) (h.r6 a rfl) _ _) (b:=a) (h.r6 a rfl) _ _
 have s1:=(h.funcs.stored (n*4+2) (.int .i64 L)).1
 have s2:=(s1.stored (n*4+3) (.int .i64 En)).1
 have e1:(fs.flatMap fnCells).set (n*4+2) (.int .i64 (L:Nat))=(fs.set n (⟨x.1.typ,L,x.1.entry⟩,x.2.1,x.2.2)).flatMap fnCells:=flat_set fnLen fs n 2 (by decide) x _ _ hx rfl
 have hx':(fs.set n (⟨x.1.typ,L,x.1.entry⟩,x.2.1,x.2.2))[n]? =some (⟨x.1.typ,L,x.1.entry⟩,x.2.1,x.2.2):=by
  rw[List.getElem?_set_self (List.getElem?_eq_some_iff.1 hx).1]
 have e2:=flat_set fnLen (fs.set n (⟨x.1.typ,L,x.1.entry⟩,x.2.1,x.2.2)) n 3 (by decide) _ (⟨x.1.typ,L,En⟩,x.2.1,x.2.2) (.int .i64 (En:Nat)) hx' rfl
 rw[e1,e2,List.set_set]at s2
 refine⟨Nat.le_trans h.base k.size,(h.kRd (X:=fun r=>r=6) k (by decide) (by decide):),(h.kLook (X:=fun r=>r=6) k (by decide):),(h.kMod (X:=fun r=>r=6) k (by decide):),(h.kTypes (X:=fun r=>r=6) k (by decide):),(h.kGlobs (X:=fun r=>r=6) k (by decide):),?_,(h.kVals (X:=fun r=>r=6) k (by decide):),(h.kCode (X:=fun r=>r=6) k (by decide):),h.eqT,?_,
  h.kTyB (X:=fun r=>r=6) k (by decide),?_,h.r1,h.r2,h.r3,h.r4,h.r5,h.r6,h.r7,h.r8,h.kTyR (X:=fun r=>r=6) k,?_,h.low,h.dvB,h.tyN,?_⟩
 ·simpa using s2
 ·rw[h.eqF,List.map_set]
 ·intro y hy
  rcases List.mem_or_eq_of_mem_set hy with hy|rfl
  ·exact h.kFnB (X:=fun r=>r=6) k (by decide) y hy
  ·exact h.kFnB (X:=fun r=>r=6) k (by decide) x hm
 ·intro y hy
  rcases List.mem_or_eq_of_mem_set hy with hy|rfl
  ·exact h.kFnR (X:=fun r=>r=6) k y hy
  ·exact h.kFnR (X:=fun r=>r=6) k x hm
 ·intro y hy
  rcases List.mem_or_eq_of_mem_set hy with hy|rfl
  ·exact h.fnN y hy
  ·exact h.fnN x hm

def bRole (pb mb bb g:Nat) (cv:Value):Nat→Nat:=fun b=>if b=pb then 1 else if b=mb then 2 else if b=bb then 3 else if b=g then 5 else if cv.ownBlock=some b then 6 else 0

structure BodyAt (role:Nat→Nat) (pb bb g:Nat):Prop where
 p9:role pb=9
 b9:role bb=9
 g9:role g=9
 d1:pb≠bb
 d2:pb≠g
 d3:bb≠g

def bEnv (I:LIds) (w:World) (s:Lkr) (cv fv glv gv dv lv:Value) (pb bb g:Nat) (P lo:List UInt8):Env:=
 {B:=I.B,rb:=pb,bb:=bb,mb:=I.mb,dv:=dv,fv:=fv,glv:=glv,gv:=gv,lv:=lv,ro:=fun b=>b<w.heap.size∧bRole pb I.mb bb g cv b=0,pages:=s.pages,
  c:=⟨P,s.fns.map (·.typ),s.gl,lo⟩}

theorem bRole_far {pb bb g:Nat} (hA:BodyAt role pb bb g) (h:LStG I w s role tv gv fv glv cv tys fs) {b:Nat} (h9:role b≠9) (h2:role b≠2) (h8:role b≠8):bRole pb I.mb bb g cv b=0:=by
 unfold bRole
 rw[if_neg (fun e=>h9 (by rw[e];exact hA.p9)),if_neg (fun e=>h2 (by rw[e];exact h.r2)),if_neg (fun e=>h9 (by rw[e];exact hA.b9)),if_neg (fun e=>h9 (by rw[e];exact hA.g9)),if_neg (fun e=>h8 (h.r8 b e))]

theorem toBody {pb bb g:Nat} {dv lv rv:Value} {P lo res:List UInt8} {i:Nat} (hA:BodyAt role pb bb g) (h:LStG I w s role tv gv fv glv cv tys fs) (hr:RSt w pb dv P i) (hd: ∀b,dv.ownBlock=some b→I.dv.ownBlock=some b)
  (hb:w.heap[bb]? =some (.cells #[ptrTo pb,ptrTo I.mb,gv,lv,.slice none 0 0,.slice (some ⟨g,0,none⟩) 1 1,.int .i64 0,.bool false] 263))
  (hg:w.heap[g]? =some (.cells #[.int .i64 0,rv,.int .i64 0,.int .i64 0,.slice none 0 0] 298)) (hgB:I.B≤g)
  (hl:BytesAt w lv lo) (hlv: ∀b,lv.ownBlock=some b→b<w.heap.size∧b≠pb∧b≠I.mb∧b≠bb∧b≠g∧cv.ownBlock≠some b) (hres:BytesAt w rv res) (hrv: ∀b,rv.ownBlock=some b→role b=0∧b<w.heap.size)
  (nf:s.fns.length≤16) (ng:s.gl.length≤8) (nl:lo.length≤32) (ht: ∀x∈s.fns,x.typ.1.length≤8∧x.typ.2.length≤1):
  BSt (bEnv I w s cv fv glv gv dv lv pb bb g P lo) g w ⟨i,s.code,[],[⟨0,res,0,0,[]⟩],0,false⟩:=by
 have hm9: ∀{b:Nat},role b=2→b≠pb∧b≠bb∧b≠g:=fun{b} e=>⟨fun x=>(by rw[x,hA.p9]at e;cases e),fun x=>(by rw[x,hA.b9]at e;cases e),fun x=>(by rw[x,hA.g9]at e;cases e)⟩
 have hm8: ∀{b:Nat},role b=8→b≠pb∧b≠bb∧b≠g:=fun{b} e=>⟨fun x=>(by rw[x,hA.p9]at e;cases e),fun x=>(by rw[x,hA.b9]at e;cases e),fun x=>(by rw[x,hA.g9]at e;cases e)⟩
 obtain⟨m1,m2,m3⟩:=hm9 h.r2
 have c8: ∀b,cv.ownBlock=some b→b≠I.mb:=fun b hb e=>by have :=h.r8 b hb;rw[e,h.r2]at this;cases this
 have hfar: ∀{b:Nat},role b≠9→role b≠2→role b≠8→bRole pb I.mb bb g cv b=0:=fun h9 h2 h8=>bRole_far hA h h9 h2 h8
 have hrow: ∀{v:Value} {k:Nat},(∀b,v.ownBlock=some b→role b=k)→k≠9→k≠2→k≠8→ ∀b,v.ownBlock=some b→bRole pb I.mb bb g cv b=0:=fun hv h9 h2 h8 b hb=>hfar (by rw[hv b hb];exact h9) (by rw[hv b hb];exact h2) (by rw[hv b hb];exact h8)
 have hz: ∀{v:Value},RoV (fun b=>role b=0∧b<w.heap.size) v→RoV (fun b=>b<w.heap.size∧bRole pb I.mb bb g cv b=0) v:=fun hv b hb=>⟨(hv b hb).2,hfar (by rw[(hv b hb).1];decide) (by rw[(hv b hb).1];decide) (by rw[(hv b hb).1];decide)⟩
 have hdv:RoV (fun b=>b<w.heap.size∧bRole pb I.mb bb g cv b=0) dv:=hz (fun b hb=>⟨h.low b (h.dvB b (hd b hb)),Nat.lt_of_lt_of_le (I.hlo b (h.dvB b (hd b hb))) h.base⟩)
 refine⟨bRole pb I.mb bb g cv,.slice none 0 0,cv,1,[(⟨0,res,0,0,[]⟩,rv,.slice none 0 0)],?_⟩
 refine⟨⟨Nat.le_trans I.hBC h.base,hdv,?_,?_,hl,fun b hb=>⟨(hlv b hb).1,?_⟩,by simpa[bEnv]using nf,by simpa[bEnv]using ng,nl,?_⟩,hr,hb,h.mod,World.ownsRow_nil _ _ _ _,?_,h.code,rfl,?_,?_,?_,?_,?_,fun b hb=>(by cases hb),?_,?_,?_,?_,fun b hb=>hb.2,fun b hb=>hb.1⟩
 ·obtain⟨ad,cap,hfv,hcap⟩:=(RowAt.own h.funcs).shape
  refine⟨ad,cap,by rw[hfv];simp[bEnv],by simpa[bEnv]using hcap,fun k hk=> ?_⟩
  have hk':k<s.fns.length:=by simpa[bEnv]using hk
  obtain⟨a,cap',x,hfv',-,hx,hxe,hxm,c0,c1,-,-,-⟩:=h.fn hk'
  rw[hfv]at hfv'
  cases hfv'
  have hty:((bEnv I w s cv fv glv gv dv lv pb bb g P lo).c.funcs.getD k ([],[]))=x.1.typ:=by
   show((s.fns.map (·.typ)).getD k ([],[]))=_
   rw[h.eqF,List.getD_eq_getElem?_getD,List.getElem?_map,List.getElem?_map,hx];rfl
  refine⟨a,0,x.2.1,x.2.2,rfl,⟨own_lt h.funcs (by rw[hfv];rfl),hrow h.r6 (by decide) (by decide) (by decide) a (by rw[hfv];rfl)⟩,by simpa using c0,by simpa using c1,?_,hz (h.fnR x hxm).1,?_,hz (h.fnR x hxm).2⟩
  ·rw[hty];exact(h.fnB x hxm).1
  ·rw[hty];exact(h.fnB x hxm).2
 ·obtain⟨ad,cap,hgv,hcap⟩:=(RowAt.own h.globs).shape
  refine⟨ad,cap,hgv,hcap,fun k hk=> ?_⟩
  have hk':k<s.gl.length:=hk
  obtain⟨a,cap',hgv',-,-⟩:=h.globs.form (by omega)
  have hcell: ∀j,j<2→w.cell? ⟨a,k*2+j,none⟩=(glCells (s.gl.getD k (0,false)))[j]? :=by
   intro j hj
   have :=h.globs
   rw[hgv']at this
   rw[this.cellAt (k*2+j) (by omega),flat_get glLen s.gl k j hj,List.getD_eq_getElem?_getD,List.getElem?_eq_getElem hk'];rfl
  rw[hgv]at hgv'
  cases hgv'
  exact⟨a,0,rfl,⟨own_lt h.globs (by rw[hgv];rfl),hrow h.r5 (by decide) (by decide) (by decide) a (by rw[hgv];rfl)⟩,(by rw[Nat.zero_add];exact hcell 0 (by decide)),(by rw[Nat.zero_add];exact hcell 1 (by decide))⟩
 ·obtain⟨l1,l2,l3,l4,l5,l6⟩:=hlv b hb
  unfold bRole
  rw[if_neg l2,if_neg l3,if_neg l4,if_neg l5,if_neg l6]
 ·intro k hk
  have hk':k<s.fns.length:=by simpa[bEnv]using hk
  have hty:((bEnv I w s cv fv glv gv dv lv pb bb g P lo).c.funcs.getD k ([],[]))=s.fns[k].typ:=by
   show((s.fns.map (·.typ)).getD k ([],[]))=_
   simp[List.getD_eq_getElem?_getD,hk']
  rw[hty]
  exact ht _ (List.getElem_mem _)
 ·exact⟨rfl,.inr ⟨g,1,_,rfl,hgB,hg,Nat.le_refl _,by simp[maxLen],rfl,rfl⟩⟩
 ·intro k x hx
  match k with
  |0=>cases hx;exact World.ownsRow_nil _ _ _ _
  |k+1=>cases hx
 ·intro k x hx
  match k with
  |0=>cases hx;exact hres
  |k+1=>cases hx
 ·exact if_pos rfl
 ·show bRole pb I.mb bb g cv I.mb=2
  unfold bRole;rw[if_neg m1,if_pos rfl]
 ·show bRole pb I.mb bb g cv bb=3
  unfold bRole;rw[if_neg (Ne.symm hA.d1),if_neg (Ne.symm m2),if_pos rfl]
 ·unfold bRole;rw[if_neg (Ne.symm hA.d2),if_neg (Ne.symm m3),if_neg (Ne.symm hA.d3),if_pos rfl]
 ·intro b hb
  obtain⟨n1,n2,n3⟩:=hm8 (h.r8 b hb)
  unfold bRole;rw[if_neg n1,if_neg (c8 b hb),if_neg n2,if_neg n3,if_pos hb]
 ·intro k x hx b hb
  match k with
  |0=>cases hx;cases hb
  |k+1=>cases hx
 ·intro k x hx b hb
  match k with
  |0=>
   cases hx
   obtain⟨z1,z2⟩:=hrv b hb
   exact⟨hfar (by rw[z1];decide) (by rw[z1];decide) (by rw[z1];decide),z2⟩
  |k+1=>cases hx

theorem fromBody {pb bb g g':Nat} {dv lv:Value} {P lo:List UInt8} {s':Bd} (hA:BodyAt role pb bb g) (h:LStG I w s role tv gv fv glv cv tys fs) (k:Kp (nro (bEnv I w s cv fv glv gv dv lv pb bb g P lo).ro) w w') (hs:BSt (bEnv I w s cv fv glv gv dv lv pb bb g P lo) g' w' s'):
  LSt I w' {s with code:=s'.code}:=by
 obtain⟨ρ,sv,cv',kc,bs,hs⟩:=hs
 have hro: ∀b,b<w.heap.size→role b≠9→role b≠2→role b≠8→(bEnv I w s cv fv glv gv dv lv pb bb g P lo).ro b:=fun b hb h9 h2 h8=>⟨hb,bRole_far hA h h9 h2 h8⟩
 have hm2:ρ I.mb=2:=hs.r2
 have hne: ∀b,(bEnv I w s cv fv glv gv dv lv pb bb g P lo).ro b→cv'.ownBlock≠some b:=fun b hr e=>by have h0:=hs.ro b hr;rw[hs.r6 b e]at h0;cases h0
 have hmne:cv'.ownBlock≠some I.mb:=fun e=>by have :=hs.r6 _ e;rw[hm2]at this;cases this
 obtain⟨role',hro'⟩: ∃role':Nat→Nat,role'=fun b=>if cv'.ownBlock=some b then 8 else if b<w.heap.size∧role b≠8 then role b else 0:=⟨_,rfl⟩
 have hk0: ∀{b:Nat} {n:Nat},role b=n→b<w.heap.size→n≠9→n≠2→n≠8→role' b=n:=by
  intro b n e hlt h9 h2 h8
  subst e
  rw[hro']
  simp only[if_neg (hne b (hro b hlt h9 h2 h8)),if_pos (And.intro hlt h8)]
 have hin: ∀{b:Nat} {n:Nat},role b=n→b<w.heap.size→n≠9→n≠2→n≠8→ ¬nro (bEnv I w s cv fv glv gv dv lv pb bb g P lo).ro b:=fun e hlt h9 h2 h8 hn=>hn (hro _ hlt (e▸h9) (e▸h2) (e▸h8))
 have hz: ∀{v:Value},RoV (fun b=>role b=0∧b<w.heap.size) v→RoV (fun b=>role' b=0∧b<w'.heap.size) v:=fun hv b hb=>⟨hk0 (hv b hb).1 (hv b hb).2 (by decide) (by decide) (by decide),Nat.lt_of_lt_of_le (hv b hb).2 k.size⟩
 have hy: ∀{v:Value} {l:List UInt8},RoV (fun b=>role b=0∧b<w.heap.size) v→BytesAt w v l→BytesAt w' v l:=fun hv hl=>hl.kp k (fun b hb=>hin (hv b hb).1 (hv b hb).2 (by decide) (by decide) (by decide))
 have lR:=lt_of_blk h.rd.blk
 have lL:=lt_of_blk h.look
 refine⟨role',tv,gv,fv,glv,cv',tys,fs,?_⟩
 refine⟨Nat.le_trans h.base k.size,h.rd.kp k (hin h.r1 lR (by decide) (by decide) (by decide)) (fun b hb hlt=>hin (h.low b (h.dvB b hb)) hlt (by decide) (by decide) (by decide)),k.blk h.look (hin h.r3 lL (by decide) (by decide) (by decide)),hs.mod,
  k.own h.types (fun b hb=>hin (h.r4 b hb) (own_lt h.types hb) (by decide) (by decide) (by decide)),k.own h.globs (fun b hb=>hin (h.r5 b hb) (own_lt h.globs hb) (by decide) (by decide) (by decide)),
  k.own h.funcs (fun b hb=>hin (h.r6 b hb) (own_lt h.funcs hb) (by decide) (by decide) (by decide)),k.own h.vals (fun b hb=>hin (h.r7 b hb) (own_lt h.vals hb) (by decide) (by decide) (by decide)),hs.code,h.eqT,h.eqF,
  fun x hx=>⟨hy (h.tyR x hx).1 (h.tyB x hx).1,hy (h.tyR x hx).2 (h.tyB x hx).2⟩,fun x hx=>⟨hy (h.fnR x hx).1 (h.fnB x hx).1,hy (h.fnR x hx).2 (h.fnB x hx).2⟩,
  hk0 h.r1 lR (by decide) (by decide) (by decide),?_,hk0 h.r3 lL (by decide) (by decide) (by decide),
  fun b hb=>hk0 (h.r4 b hb) (own_lt h.types hb) (by decide) (by decide) (by decide),fun b hb=>hk0 (h.r5 b hb) (own_lt h.globs hb) (by decide) (by decide) (by decide),fun b hb=>hk0 (h.r6 b hb) (own_lt h.funcs hb) (by decide) (by decide) (by decide),fun b hb=>hk0 (h.r7 b hb) (own_lt h.vals hb) (by decide) (by decide) (by decide),?_,
  fun x hx=>⟨hz (h.tyR x hx).1,hz (h.tyR x hx).2⟩,fun x hx=>⟨hz (h.fnR x hx).1,hz (h.fnR x hx).2⟩,fun b hb=>hk0 (h.low b hb) (Nat.lt_of_lt_of_le (I.hlo b hb) h.base) (by decide) (by decide) (by decide),h.dvB,h.tyN,h.fnN⟩
 ·rw[hro']
  simp only[if_neg hmne,if_pos (And.intro (lt_of_blk h.mod) (show role I.mb≠8 by rw[h.r2];decide))]
  exact h.r2
 ·intro b hb
  rw[hro']
  simp only[if_pos hb]
end

end Go.Proofs.YtdeplgkhmebalaaGreatDoor

set_option linter.unusedSimpArgs false
set_option linter.unusedVariables false
set_option maxHeartbeats 6000000
set_option maxRecDepth 100000
namespace Go.Proofs.YtdeplgkhmebalaaGreatDoor
open Go.RowKit

def partM (P:List UInt8) (ts:List Ty) (gl:List (UInt8×Bool)) (typ:Ty) (code:List Ins) (i:Nat):Except (Int×Int) (FnM×List Ins):=
 match listM P (32 -typ.1.length) i with
 | .error e=> .error e
 | .ok (more,k)=>match lookM ⟨P,ts,gl,typ.1++more⟩ 2001 ⟨k,code,[],[⟨0,typ.2,0,0,[]⟩],0,false⟩with
  | .error e=> .error e
  | .ok s=> .ok (⟨typ,typ.1.length+more.length,code.length⟩,s.code)
theorem sz0 (i:Nat) (code:List Ins) (res:List UInt8) (N:Nat) (hc:code.length≤N) (hr:res.length≤1):Sz N ⟨i,code,[],[⟨0,res,0,0,[]⟩],0,false⟩:=by
 refine⟨by simp,by simp,hc,by simp[Bd.top,Bd.bk],fun j k hj hk=> ?_,fun k hk=> ?_⟩
 ·simp at hk;obtain rfl :k=0:=by omega
  obtain rfl :j=0:=by omega
  exact Nat.le_refl _
 ·simp at hk;obtain rfl :k=0:=by omega
  simp[Bd.bk,hr]

theorem byte_fwd {D:List UInt8} {i j:Nat} {c:UInt8} (h:byteM D i= .ok (c,j)):i≤j:=by
 unfold byteM at h
 split at h
 ·cases h;exact Nat.le_succ _
 ·cases h
theorem oneOf_fwd {D al:List UInt8} {i j:Nat} {c:UInt8} (h:oneOfM D al i= .ok (c,j)):i≤j:=by
 unfold oneOfM at h
 split at h
 ·cases h
 ·rename_i hb
  split at h
  ·cases h;exact byte_fwd hb
  ·cases h
theorem many_fwd {D al:List UInt8} (n:Nat): ∀{i:Nat} {l:List UInt8} {j:Nat},manyM (oneOfM D al) n i= .ok (l,j)→i≤j:=by
 induction n with
 |zero=>intro i l j h;cases h;exact Nat.le_refl _
 |succ n ih=>
  intro i l j h
  rw[manyM]at h
  split at h
  ·cases h
  ·rename_i h1
   split at h
   ·cases h
   ·rename_i h2;cases h;exact Nat.le_trans (oneOf_fwd h1) (ih h2)
theorem list_fwd {D:List UInt8} {most i:Nat} {l:List UInt8} {j:Nat} (h:listM D most i= .ok (l,j)):i≤j:=by
 unfold listM at h
 split at h
 ·cases h
 ·rename_i n k hb
  have :=(below_lt hb).2.1
  exact Nat.le_trans (by omega) (many_fwd n h)
theorem RowsAt.le {w:World} {ro ro':Nat→Prop} (h:RowsAt w ro) (hr: ∀b,ro b→ro' b):RowsAt w ro':=by
 obtain⟨a,o,cap,h1,h2,h3,h4,h5⟩:=h
 exact⟨a,o,cap,h1,h2,hr _ h3,hr _ h4,h5⟩

section
variable{I:LIds} {w0 w:World} {s:Lkr} {role:Nat→Nat} {tv gv glv cv:Value} {tys:List TyV} {fs:List FnV}

def PDone (I:LIds) (w w':World) (s:Lkr) (j n q:Nat) (m:Except (Int×Int) (FnM×List Ins)) (r:Ending):Prop:=
 match m with
 | .ok (f,code)=>r= .returned (.pointer none)∧LSt I w' {s with i:=j,fns:=s.fns.set n f,code:=code}∧code.length≤q
 | .error e=> ∃fv,r= .returned fv∧FaultAt w w' fv e

theorem readBody_any {a cap:Nat} (h0:LStG I w0 s role tv gv (.slice (some ⟨a,0,none⟩) s.fns.length cap) glv cv tys fs) (k0:Kp (one I.rb) w0 w) {j:Nat} (hr0:RSt w I.rb I.dv I.D j) {pb:Nat} {dv:Value} {P:List UInt8} {i:Nat} (hp:w0.heap.size≤pb) (hrp:RSt w pb dv P i)
  (hd: ∀b,dv.ownBlock=some b→I.dv.ownBlock=some b) {n:Nat} (hn:n<s.fns.length) (hR:RowsAt w I.lo) (nf:s.fns.length≤16) (ng:s.gl.length≤8) (ht: ∀x∈s.fns,x.typ.1.length≤8∧x.typ.2.length≤1) (hcl:s.code.length≤18*i):
  Calls Tryz.prog 112 #[ptrTo I.kb,ptrTo pb,.pointer (some ⟨a,n*4,none⟩)] w fun r w'=>PDone I w w' s j n (18*P.length) (partM P (s.fns.map (·.typ)) s.gl (s.fns.getD n ⟨([],[]),0,0⟩).typ s.code i) r∧Kp (upl I) w w':=by
 --the looker's lists lie apart from all that is new
 have h1:LStG I w0 s (newRole role w0.heap.size 9) tv gv (.slice (some ⟨a,0,none⟩) s.fns.length cap) glv cv tys fs:=h0.rerole (fun k hk=>newRole_old hk)
 have h2:=h1.setRd k0 hr0
 have hn9: ∀b,w0.heap.size≤b→newRole role w0.heap.size 9 b=9:=fun b hb=>newRole_new hb
 generalize newRole role w0.heap.size 9=ρ at *
 have hsz0:=k0.size
 obtain⟨a',cap',x,hfv,hcap,hx,hxe,hxm,c0,c1,c2,c3,cf⟩:=h2.fn (n:=n) hn
 cases hfv
 obtain⟨⟨typ,lo0,en0⟩,pv,rv⟩:=x
 simp only at hxe c0 c1 c2 c3
 have hty:(s.fns.getD n ⟨([],[]),0,0⟩).typ=typ:=by rw[←hxe]
 have htl:typ.1.length≤8∧typ.2.length≤1:=by
  rw[←hty]
  have :s.fns.getD n ⟨([],[]),0,0⟩∈s.fns:=by rw[List.getD_eq_getElem?_getD,List.getElem?_eq_getElem hn];exact List.getElem_mem _
  exact ht _ this
 rw[hty]
 obtain⟨hpB,hrB⟩:=h2.fnB _ hxm
 obtain⟨hpR,hrR⟩:=h2.fnR _ hxm
 simp only at hpB hrB hpR hrR
 obtain⟨ap,cp,hpv,hpc⟩:=hpB.shape
 obtain⟨ar,cr,hrv,hrc⟩:=hrB.shape
 have hdlt: ∀b,dv.ownBlock=some b→b<w.heap.size:=fun b hb=>Nat.lt_of_lt_of_le (I.hlo b (h2.dvB b (hd b hb))) h2.base
 have hli:=readList_any hrp hdlt (32 -typ.1.length) (by omega)
 rw[show((32 -typ.1.length:Nat):Int)=32 - (typ.1.length:Int)by omega]at hli
 have hM:partM P (s.fns.map (·.typ)) s.gl typ s.code i=(match listM P (32 -typ.1.length) i with
  | .error e=> .error e
  | .ok (more,k)=>match lookM ⟨P,s.fns.map (·.typ),s.gl,typ.1++more⟩ 2001 ⟨k,s.code,[],[⟨0,typ.2,0,0,[]⟩],0,false⟩with
   | .error e=> .error e
   | .ok s'=> .ok (⟨typ,typ.1.length+more.length,s.code.length⟩,s'.code)):=rfl
 have hll:=fun l k=>list_len (D:=P) (most:=32 -typ.1.length) (i:=i) (l:=l) (j:=k)
 have hlf:=fun l k=>list_fwd (D:=P) (most:=32 -typ.1.length) (i:=i) (l:=l) (j:=k)
 have htm: ∀(L En:Nat),(s.fns.set n ⟨typ,L,En⟩).map (·.typ)=s.fns.map (·.typ):=by
  intro L En
  rw[List.map_set]
  have :(s.fns.map (·.typ))[n]'(by simpa using hn)=typ:=by
   rw[←hty,List.getD_eq_getElem?_getD,List.getElem?_eq_getElem hn];simp
  conv =>lhs;rw[show(⟨typ,L,En⟩:FnM).typ=(s.fns.map (·.typ))[n]'(by simpa using hn)from this.symm]
  exact List.set_getElem_self _
 generalize partM P (s.fns.map (·.typ)) s.gl typ s.code i=R at *
 generalize listM P (32 -typ.1.length) i=Q at *
 subst hpv hrv
 have H2:=hide h2
 have HL:=hide hli
 have HM:=hide hM
 have HpB:=hide hpB
 have HrB:=hide hrB
 have HpR:=hide hpR
 have HrR:=hide hrR
 have HP:=hide hrp
 have HX:=hide hx
 have HR:=hide hR
 have H9:=hide hn9
 have HT:=hide ht
 have HTm:=hide htm
 have HD:=hide hd
 have hbase:=h2.base
 have hBC:=I.hBC
 have haB:=own_new h2.funcs a rfl
 have halt:=own_lt h2.funcs (b:=a) rfl
 have hapb:a<w0.heap.size:=own_lt h0.funcs (b:=a) rfl
 clear htm h0 h1 h2 hli hM hpB hrB hpR hrR hrp hx hR hn9 ht hd hxm hxe hty hdlt hr0 k0
 match Q,HM,HL,hll,hlf with
 | .error e,HM,HL,_,_=>
  go_enter Tryz.func112,Tryz.ntmps112
  go_wp2_with fail
  refine HL.out.mono ?_
  rintro r w1 ⟨⟨fv,rfl,fb,rfl,hfb,hfo⟩,k1⟩
  have HF:=hide hfo
  clear hfo
  go_wp2
  go_ret
  rw[HM.out]
  refine⟨⟨ptrTo fb,rfl,fb,rfl,hfb,HF.out⟩,k1.mono (fun b _ (e:b=pb)=> ?_)⟩
  intro hlt
  have :=H2.out.low b hlt
  rw[e,H9.out pb hp]at this
  cases this
 | .ok (more,k),HM,HL,hll,hlf=>
  have hml:=hll more k rfl
  have hik:=hlf more k rfl
  clear hll hlf
  go_enter Tryz.func112,Tryz.ntmps112
  go_wp2_with fail
  refine HL.out.mono ?_
  rintro r w1 ⟨⟨mv,rfl,hmB,hmN,hr1⟩,k1⟩
  obtain⟨am,cm,hmv,hmc⟩:=hmB.shape
  subst hmv
  have hap:a≠pb:=by omega
  have g0:=k1.cell c0 hap
  have g1:=k1.cell c1 hap
  have g2:=k1.cell c2 hap
  have g3:=k1.cell c3 hap
  have h3:LStG I w1 {s with i:=j} ρ tv gv (.slice (some ⟨a,0,none⟩) s.fns.length cap) glv cv tys fs:=H2.out.far (k1.mono (fun b _ (e:b=pb)=>by rw[e];exact H9.out pb hp))
  obtain⟨hkc,-⟩:=cells_of h3.look
  obtain⟨hmdc,-⟩:=cells_of h3.mod
  have hff: ∀q,w1.frozen? ⟨a,q,none⟩=false:=fun q=>h3.funcs.frozenAt q
  obtain⟨ac,cc,hcv⟩:=own_shape h3.code
  simp only at hcv
  have HCv:=hide hcv
  have hkb1:=lt_of_blk h3.look
  have hak:I.kb≠a:=fun e=>by have :=h3.r6 a rfl;rw[←e,h3.r3]at this;cases this
  have ham:I.mb≠a:=fun e=>by have :=h3.r6 a rfl;rw[←e,h3.r2]at this;cases this
  have H3:=hide h3
  have HK1:=hide k1
  have HmB:=hide hmB
  have HmN:=hide hmN
  have Hr1:=hide hr1
  clear h3 k1 hmB hmN hr1 c0 c1 c2 c3 cf hcv
  have hmdc3:=hmdc 3
  rw[HCv.out]at hmdc3
  simp only[List.getElem?_toArray]at hmdc3
  clear hmdc
  go_wp2_with fail
  have hxs:(fs.set n ((⟨typ,typ.1.length+more.length,s.code.length⟩:FnM),Value.slice ap typ.1.length cp,Value.slice ar typ.2.length cr))[n]? =some (⟨typ,typ.1.length+more.length,s.code.length⟩,Value.slice ap typ.1.length cp,Value.slice ar typ.2.length cr):=by
   rw[List.getElem?_set_self (List.getElem?_eq_some_iff.1 HX.out).1]
  have h4:=H3.out.setFn rfl HX.out (typ.1.length+more.length) s.code.length
  have k2:Kp (one a) w1 ((w1.setCell ⟨a,n*4+2,none⟩ (.int .i64 (typ.1.length+more.length:Nat))).setCell ⟨a,n*4+3,none⟩ (.int .i64 (s.code.length:Nat))):=((Kp.refl _ w1).set1 _ _).set1 _ _
  rw[show((typ.1.length+more.length:Nat):Int)=(typ.1.length:Int)+(more.length:Int)by omega]at h4 k2
  generalize(w1.setCell ⟨a,n*4+2,none⟩ (.int .i64 ((typ.1.length:Int)+(more.length:Int)))).setCell ⟨a,n*4+3,none⟩ (.int .i64 (s.code.length:Nat))=w2 at *
  obtain⟨hpB2,hrB2⟩:=h4.fnB _ (List.mem_of_getElem? hxs)
  obtain⟨hpR2,hrR2⟩:=h4.fnR _ (List.mem_of_getElem? hxs)
  simp only at hpB2 hrB2 hpR2 hrR2
  have hmB2:BytesAt w2 (.slice am more.length cm) more:=HmB.out.kp k2 (fun b hb (e:b=a)=>by have :=(HmN.out b hb).1;omega)
  have hr2:RSt w2 pb dv P k:=Hr1.out.kp k2 (fun(e:pb=a)=>by omega) (fun b hb _ (e:b=a)=>by have :=H2.out.low b (H2.out.dvB b (HD.out b hb));rw[e,H2.out.r6 a rfl]at this;cases this)
  have hnb:=newBody_any (pb:=pb) (ad1:=ap) (l1:=typ.1.length) (c1:=cp) (ad2:=ar) (l2:=typ.2.length) (c2:=cr) h4.look (by obtain⟨x1,x2,x3⟩:=own_shape h4.globs;exact⟨x1,_,x2,x3⟩)
  have hs2:=k2.size
  have hs1:=HK1.out.size
  have HNB:=hide hnb
  have H4:=hide h4
  have HK2:=hide k2
  have HpB2:=hide hpB2
  have HrB2:=hide hrB2
  have HpR2:=hide hpR2
  have HrR2:=hide hrR2
  have HmB2:=hide hmB2
  have Hr2:=hide hr2
  have HXs:=hide hxs
  clear hnb h4 k2 hpB2 hrB2 hpR2 hrR2 hmB2 hr2 hxs g0 g1 g2 g3 hkc hff hmdc3
  refine HNB.out.mono ?_
  rintro r w3 ⟨bb,g,rfl,hbb,hgg,hbg,hgl,hbo,hgo,k3⟩
  obtain⟨i0,hi0,hz0,hz1,hz2⟩:=info_parts info_u8
  obtain⟨hbc,hbf⟩:=cells_of hbo
  have hs3:=k3.size
  have hbl:=lt_of_blk hbo
  have HBo:=hide hbo
  have HGo:=hide hgo
  have HK3:=hide k3
  clear hbo hgo k3
  go_wp2_with(at_builtin;refine wpList_append_at _ rfl _ _ 25 rfl w3.heap.size 5 i0 (.int .u8 0) 1 1 Tryz.underlying25 hi0 hz0 hz1 hz2 rfl (by decide) _ 0 [] rfl (World.ownsRow_nil _ _ _ _) _ typ.1.length _ rfl (HpB2.out.kp HK3.out (fun _ _ h=>h)) (bytes_oneCell _) ?c3 ?c4 (Nat.le_refl _) ?_)
  case c3=>unfold maxLen;omega
  case c4=>omega
  intro v1 w4 hown1 hgrow1 hat1
  have hs4:=hgrow1.size
  have kk4:Kp no w3 w4:=(Kp.refl _ w3).grown hgrow1 (fun k e=>by cases e)
  have hmB4:=(HmB2.out.kp HK3.out (fun _ _ h=>h)).kp kk4 (fun _ _ h=>h)
  obtain⟨ad1,cap1,rfl⟩:=own_shape hown1
  have HO1:=hide hown1
  have HG1:=hide hgrow1
  have HA1:=hide hat1
  have HK4:=hide kk4
  have HmB4:=hide hmB4
  clear hown1 hgrow1 hat1 kk4 hmB4
  go_wp2_with(at_builtin;go_loud (refine wpList_append_at _ rfl _ _ 25 rfl w3.heap.size 5 i0 (.int .u8 0) 1 1 Tryz.underlying25 hi0 hz0 hz1 hz2 rfl (by decide) _ typ.1.length _ rfl HO1.out _ more.length _ rfl HmB4.out (bytes_oneCell _) ?c5 ?c6 hs4 ?_))
  case c5=>unfold maxLen;omega
  case c6=>omega
  intro v2 w5 hown2 hgrow2 hat2
  have hv1: ∀b,(Value.slice ad1 typ.1.length cap1).ownBlock=some b→w3.heap.size≤b:=own_new HO1.out
  have kk5:Kp no w3 w5:=(HK4.out).grown hgrow2 (fun b e=> .inr (hv1 b e))
  have hv2:=own_new hown2
  have hl2:=fun b=>own_lt hown2 (b:=b)
  obtain⟨ad2,cap2,rfl⟩:=own_shape hown2
  obtain⟨hbc5,hbf5⟩:=cells_of (kk5.blk HBo.out (fun h=>h))
  have HO2:=hide hown2
  have HK5:=hide kk5
  have HV2:=hide hv2
  have HL2:=hide hl2
  clear hown2 hgrow2 hat2 kk5 hv1 hbc hbf hv2 hl2
  go_wp2_with fail
  have hpb1:=lt_of_blk HP.out.blk
  have k6:Kp (fun b=>(fun r=>r=9) (ρ b)) w2 (w5.setCell ⟨bb,3,none⟩ (.slice ad2 (typ.1.length+more.length) cap2)):=
   Kp.setAt (S:=fun b=>(fun r=>r=9) (ρ b)) (HK3.out.any.trans HK5.out.any) (b:=bb) (H9.out bb (by omega)) _ _
  have k63:Kp (one bb) w3 (w5.setCell ⟨bb,3,none⟩ (.slice ad2 (typ.1.length+more.length) cap2)):=Kp.set1 HK5.out.any _ _
  have k65:Kp (one bb) w5 (w5.setCell ⟨bb,3,none⟩ (.slice ad2 (typ.1.length+more.length) cap2)):=Kp.set1 (Kp.refl _ _) _ _
  have k62:Kp (one bb) w2 (w5.setCell ⟨bb,3,none⟩ (.slice ad2 (typ.1.length+more.length) cap2)):=Kp.set1 (HK3.out.any.trans HK5.out.any) _ _
  have hbo6:=heap_setCell (o:=3) (HK5.out.blk HBo.out (fun h=>h)) (.slice ad2 (typ.1.length+more.length) cap2)
  have hgo6:=k63.blk HGo.out (fun(e:g=bb)=>hbg e.symm)
  have hlvB:BytesAt w5 (.slice ad2 (typ.1.length+more.length) cap2) (typ.1++more):=by
   have :=RowAt.own HO2.out
   unfold BytesAt
   rw[List.length_append,List.map_append]
   exact this
  have hlv3:=HV2.out
  have hlv5:=HL2.out
  have hs5:=HK5.out.size
  have hs6:=k65.size
  have hcvB:=HCv.out
  generalize w5.setCell ⟨bb,3,none⟩ (.slice ad2 (typ.1.length+more.length) cap2)=w6 at *
  have h6:=H4.out.far k6
  have hr6:RSt w6 pb dv P k:=Hr2.out.kp k62 (fun(e:pb=bb)=>by omega) (fun b hb _ (e:b=bb)=>by have :=I.hlo b (H2.out.dvB b (HD.out b hb));have :=H2.out.base;omega)
  have hlB6:=hlvB.kp k65 (fun b hb (e:b=bb)=>by have :=hlv3 b hb;omega)
  have hrB6:=HrB2.out.kp k62 (fun b hb (e:b=bb)=>by have :=(HrR2.out b hb).2;omega)
  have kB6:Kp (upl I) w w6:=by
   refine(HK1.out.mono (fun b _ (e:b=pb)=> ?_)).trans ((HK2.out.mono (fun b _ (e:b=a)=> ?_)).trans (k62.mono (fun b _ (e:b=bb)=> ?_)))
   ·intro hlt
    have :=H2.out.low b hlt
    rw[e,H9.out pb hp]at this
    cases this
   ·intro hlt
    have :=H2.out.low b hlt
    rw[e,H2.out.r6 a rfl]at this
    cases this
   ·intro hlt
    have :=H2.out.low b hlt
    rw[e,H9.out bb (by omega)]at this
    cases this
  have hA:BodyAt ρ pb bb g:=⟨H9.out pb hp,H9.out bb (by omega),H9.out g (by omega),by omega,by omega,hbg⟩
  have hB:=toBody (lv:= .slice ad2 (typ.1.length+more.length) cap2) (lo:=typ.1++more) (res:=typ.2) hA h6 hr6 HD.out hbo6 hgo6 (by omega) hlB6 (fun b hb=>by
    have q1:=hlv3 b hb
    have q2:=hlv5 b hb
    have q3:=lt_of_blk H4.out.mod
    refine⟨by omega,by omega,by omega,by omega,by omega,fun e=> ?_⟩
    have :=own_lt H4.out.code e
    omega) hrB6 (fun b hb=>⟨(HrR2.out b hb).1,by have :=(HrR2.out b hb).2;omega⟩) (by simpa using nf) ng (by simp;omega) (fun x hx=>by
    rcases List.mem_or_eq_of_mem_set hx with hx|rfl
    ·exact HT.out x hx
    ·exact htl)
  have hRw:RowsAt w6 (bEnv I w6 {s with i:=j,fns:=s.fns.set n ⟨typ,typ.1.length+more.length,s.code.length⟩} cv (.slice (some ⟨a,0,none⟩) s.fns.length cap) glv gv dv (.slice ad2 (typ.1.length+more.length) cap2) pb bb g P (typ.1++more)).ro:=
   RowsAt.le (HR.out.kp (ro:=I.lo) kB6) (fun b hb=>by
    have hz:=h6.low b hb
    exact⟨Nat.lt_of_lt_of_le (I.hlo b hb) h6.base,bRole_far hA h6 (by rw[hz];decide) (by rw[hz];decide) (by rw[hz];decide)⟩)
  have hPl:=hr6.len
  have hPk:=hr6.le
  have hz0:=sz0 k s.code typ.2 (18*k) (by omega) htl.2
  have hlook:=look_any hB hRw hz0 (by show 18*k+18*(P.length -k)≤400000;omega) 2001 (by show P.length -k<2001;omega)
  have hM:=HM.out
  have hctx:(bEnv I w6 {s with i:=j,fns:=s.fns.set n ⟨typ,typ.1.length+more.length,s.code.length⟩} cv (.slice (some ⟨a,0,none⟩) s.fns.length cap) glv gv dv (.slice ad2 (typ.1.length+more.length) cap2) pb bb g P (typ.1++more)).c=⟨P,s.fns.map (·.typ),s.gl,typ.1++more⟩:=by
   show Ctx.mk _ _ _ _=_
   rw[HTm.out]
  have hlen:=fun s'=>look_len (c:=⟨P,s.fns.map (·.typ),s.gl,typ.1++more⟩) (fun q hq=>by
    have :=hB
    obtain⟨_,_,_,_,_,hbg⟩:=this
    have :=hbg.env.res q
    rw[hctx]at this
    exact this hq) 2001 (18*k) _ s' hz0
  rw[hctx]at hlook
  generalize lookM ⟨P,s.fns.map (·.typ),s.gl,typ.1++more⟩ 2001 ⟨k,s.code,[],[⟨0,typ.2,0,0,[]⟩],0,false⟩=Q2 at *
  have H6:=hide h6
  have HA:=hide hA
  have HLk:=hide hlook
  have HM:=hide hM
  have HLen:=hide hlen
  have KB6:=hide kB6
  have HCtx:=hide hctx
  have KW6:w.heap.size≤w6.heap.size:=kB6.size
  clear hB hRw hM hlook hlen h6 hr6 hlB6 hrB6 hA hbo6 hgo6 hlvB hlv3 hlv5 k6 k63 k65 k62 kB6 hz0 hbc5 hbf5 hcvB hctx
  match Q2,HM,HLk,HLen with
  | .error e,HM,HLk,_=>
   refine HLk.out.mono ?_
   rintro r w7 ⟨⟨fv,rfl,fb,rfl,hfb,hfo⟩,k7⟩
   have HF:=hide hfo
   have hfb':w.heap.size≤fb:=Nat.le_trans KW6 hfb
   have K7:=hide k7
   clear hfo k7 hfb
   go_wp2
   go_ret
   rw[HM.out]
   refine⟨⟨ptrTo fb,rfl,fb,rfl,hfb',HF.out⟩,KB6.out.trans (K7.out.mono (fun b hb hnr=> ?_))⟩
   refine fun hlt=>hnr ⟨hb,?_⟩
   have hz:=H6.out.low b hlt
   exact bRole_far HA.out H6.out (by rw[hz];decide) (by rw[hz];decide) (by rw[hz];decide)
  | .ok s',HM,HLk,HLen=>
   refine HLk.out.mono ?_
   rintro r w7 ⟨⟨rfl,g',hs'⟩,k7⟩
   have hfin:=fromBody HA.out H6.out k7 hs'
   have hi':=hs'
   obtain⟨_,_,_,_,_,hi'⟩:=hi'
   have hle:=hi'.rd.le
   have hlen:=HLen.out s' rfl
   simp only at hlen
   have hle':s'.i≤P.length:=hle
   have HFin:=hide hfin
   have K7:=hide k7
   clear hfin hs' hi' k7 hle
   go_wp2
   go_ret
   rw[HM.out]
   refine⟨⟨rfl,HFin.out,by omega⟩,KB6.out.trans (K7.out.mono (fun b hb hnr=> ?_))⟩
   refine fun hlt=>hnr ⟨hb,?_⟩
   have hz:=H6.out.low b hlt
   exact bRole_far HA.out H6.out (by rw[hz];decide) (by rw[hz];decide) (by rw[hz];decide)
end

end Go.Proofs.YtdeplgkhmebalaaGreatDoor

set_option linter.unusedSimpArgs false
set_option linter.unusedVariables false
set_option maxHeartbeats 8000000
set_option maxRecDepth 100000
namespace Go.Proofs.YtdeplgkhmebalaaGreatDoor
open Go.RowKit

def preB (l:List FnM) (m:Rd (List FnM×List Ins)):Rd (List FnM×List Ins):=
 match m with
 | .error e=> .error e
 | .ok ((fs,c),i)=> .ok ((l++fs,c),i)
theorem preB_nil (m:Rd (List FnM×List Ins)):preB [] m=m:=by
 cases m with
 |error e=>rfl
 |ok x=>rfl
theorem preB_step (D:List UInt8) (ts:List Ty) (gl:List (UInt8×Bool)) (l:List FnM) (t:Ty) (rest:List Ty) (code:List Ins) (i:Nat):
  preB l (bodiesM D ts gl (t::rest) code i)=(match bodyM D ts gl t code i with
   | .error e=> .error e
   | .ok ((f,c1),j)=>preB (l++[f]) (bodiesM D ts gl rest c1 j)):=by
 rw[bodiesM]
 cases bodyM D ts gl t code i with
 |error e=>rfl
 |ok x=>
  obtain⟨⟨f,c1⟩,j⟩:=x
  simp only
  cases bodiesM D ts gl rest c1 j with
  |error e=>rfl
  |ok y=>obtain⟨⟨fs,c⟩,k⟩:=y;simp[preB]
theorem bodyM_eq (D:List UInt8) (ts:List Ty) (gl:List (UInt8×Bool)) (typ:Ty) (code:List Ins) (i:Nat):bodyM D ts gl typ code i=(match UM D i with
 | .error e=> .error e
 | .ok (size,j)=>
  if D.length -j<size then .error (2,i)
  else match partM (D.take (j+size)) ts gl typ code j with
   | .error e=> .error e
   | .ok (f,c)=> .ok ((f,c),j+size)):=by
 unfold bodyM partM
 cases UM D i with
 |error e=>rfl
 |ok x=>
  obtain⟨size,j⟩:=x
  simp only
  by_cases hh:D.length -j<size
  ·simp only[if_pos hh]
  ·simp only[if_neg hh]
   cases listM (D.take (j+size)) (32 -typ.1.length) j with
   |error e=>rfl
   |ok y=>
    obtain⟨more,k⟩:=y
    simp only
    cases lookM ⟨D.take (j+size),ts,gl,typ.1++more⟩ 2001 ⟨k,code,[],[⟨0,typ.2,0,0,[]⟩],0,false⟩with
    |error e=>rfl
    |ok z=>rfl
theorem U_lt {D:List UInt8} {i n j:Nat} (h:UM D i= .ok (n,j)):n≤4294967295∧i<j∧j≤D.length:=by
 have h1:belowM D ((n:Int)+1) i= .ok (n,j):=by
  unfold belowM
  rw[h]
  simp only
  rw[if_neg (by omega)]
 have h2:=below_lt h1
 refine⟨?_,h2.2⟩
 unfold UM at h
 split at h
 ·cases h
 ·split at h
  ·cases h
  ·rename_i hn
   cases h
   omega

theorem part_typ {P:List UInt8} {ts:List Ty} {gl:List (UInt8×Bool)} {typ:Ty} {code:List Ins} {i:Nat} {f:FnM} {c:List Ins} (h:partM P ts gl typ code i= .ok (f,c)):f.typ=typ:=by
 unfold partM at h
 split at h
 ·cases h
 ·split at h
  ·cases h
  ·cases h;rfl

section
variable{I:LIds} {w:World} {s:Lkr}
def bodiesL (I:LIds) (s:Lkr):Except (Int×Int) Lkr:=
 match bodiesM I.D (s.fns.map (·.typ)) s.gl (s.fns.map (·.typ)) s.code s.i with
 | .error e=> .error e
 | .ok ((fs,c),k)=> .ok {s with fns:=fs,code:=c,i:=k}

theorem enters_part: ∀args w,(callFunc 113 args).run Tryz.prog w= .ok (.enter 113 args) w:=enters_of Tryz.func113 (by kernel_rfl) rfl
theorem enters_readBody: ∀args w,(callFunc 112 args).run Tryz.prog w= .ok (.enter 112 args) w:=enters_of Tryz.func112 (by kernel_rfl) rfl

theorem readBodies_any (h:LSt I w s) (hR:RowsAt w I.lo) (nf:s.fns.length≤16) (ng:s.gl.length≤8) (ht: ∀x∈s.fns,x.typ.1.length≤8∧x.typ.2.length≤1) (hcl:s.code.length≤18*s.i):
  Calls Tryz.prog 80 #[ptrTo I.kb] w fun r w'=>LDone I w w' (bodiesL I s) r∧Kp (upl I) w w':=by
 have hM:bodiesL I s=(match bodiesM I.D (s.fns.map (·.typ)) s.gl (s.fns.map (·.typ)) s.code s.i with
  | .error e=> .error e
  | .ok ((fs,c),k)=> .ok {s with fns:=fs,code:=c,i:=k}):=rfl
 generalize bodiesL I s=R at *
 have h':=h
 obtain⟨role,tv,gv,fv,glv,cv,tys,fs,h'⟩:=h'
 obtain⟨hc,-⟩:=cells_of h'.look
 obtain⟨hm,-⟩:=cells_of h'.mod
 obtain⟨adf,capf,rfl⟩:=own_shape h'.funcs
 have H:=hide h
 have HM:=hide hM
 have HR:=hide hR
 have HT:=hide ht
 clear h h' hM hR ht
 go_enter Tryz.func80,Tryz.ntmps80
 go_wp2
 go_loopw [16] (fun kv wr=> ∃(k jj:Nat) (l:List FnM) (c:List Ins),k≤s.fns.length∧kv= .int .i64 k∧l.length=k∧LSt I wr {s with i:=jj,fns:=l++s.fns.drop k,code:=c}∧(l++s.fns.drop k).map (·.typ)=s.fns.map (·.typ)∧c.length≤18*jj∧Kp (upl I) w wr∧
   bodiesM I.D (s.fns.map (·.typ)) s.gl (s.fns.map (·.typ)) s.code s.i=preB l (bodiesM I.D (s.fns.map (·.typ)) s.gl ((s.fns.map (·.typ)).drop k) c jj)) (fun kv _=>s.fns.length - (intOf kv).toNat)
 case atStart=>exact⟨0,s.i,[],s.code,by omega,rfl,rfl,by simpa using H.out,by simp,hcl,(Kp.refl no w).any,by rw[preB_nil];rfl⟩
 case round=>
  clear hc hm
  obtain⟨k,jj,l,c,hk,rfl,hlk,hst,hty,hcj,hkp,hlab⟩:=hrel
  have HS:=hide hst
  have HK:=hide hkp
  have HTy:=hide hty
  have hszr:=hkp.size
  by_cases hkn:k<s.fns.length
  ·have hdrop:(s.fns.map (·.typ)).drop k=(s.fns.getD k ⟨([],[]),0,0⟩).typ::(s.fns.map (·.typ)).drop (k+1):=by
    rw[List.drop_eq_getElem_cons (by simpa using hkn)]
    simp[List.getD_eq_getElem?_getD,List.getElem?_eq_getElem hkn]
   rw[hdrop,preB_step,bodyM_eq]at hlab
   have h':=hst
   obtain⟨role,tv,gv,fv,glv,cv,tys,fs,h'⟩:=h'
   obtain⟨hc,-⟩:=cells_of h'.look
   have hat:=at_any h'.rd
   have hU:=U_any h'.rd
   have hUl:=fun n j=>U_lt (D:=I.D) (i:=jj) (n:=n) (j:=j)
   simp only at hat hU
   generalize UM I.D jj=Q at *
   have HA:=hide hat
   have HU:=hide hU
   have HL:=hide hlab
   clear hat hU hlab hst hkp hty h' hdrop
   match Q,HL,HU,hUl with
   | .error e,HL,HU,_=>
    go_wp2_with fail
    refine HA.out.mono ?_
    rintro r w1 ⟨rfl,rfl⟩
    go_wp2_with fail
    refine HU.out.mono ?_
    rintro r w1 ⟨⟨fv,j,rfl,⟨fb,rfl,hfb,hfo⟩,h1⟩,k1⟩
    have HF:=hide hfo
    have hfb':w.heap.size≤fb:=Nat.le_trans hszr hfb
    have HK1:=hide (HK.out.trans (HS.out.lowRd k1))
    clear hfo h1 k1
    go_wp2
    go_ret
    rw[HM.out]
    show LDone _ _ _ (match bodiesM I.D (s.fns.map (·.typ)) s.gl (s.fns.map (·.typ)) s.code s.i with | .error e=> .error e| .ok ((fs,c),k)=> .ok {s with fns:=fs,code:=c,i:=k}) _∧_
    rw[HL.out]
    exact⟨⟨ptrTo fb,rfl,fb,rfl,hfb',HF.out⟩,HK1.out⟩
   | .ok (size,j1),HL,HU,hUl=>
    obtain⟨hsz1,hj1,hj2⟩:=hUl size j1 rfl
    clear hUl
    go_wp2_with fail
    refine HA.out.mono ?_
    rintro r w1 ⟨rfl,rfl⟩
    go_wp2_with fail
    refine HU.out.mono ?_
    rintro r w1 ⟨⟨v,rfl,rfl,h1⟩,k1⟩
    have hs1:=HS.out.read k1 h1
    have HK1:=hide (HK.out.trans (HS.out.lowRd k1))
    have hszr1:=Nat.le_trans hszr k1.size
    have hRw1:RowsAt w1 I.lo:=HR.out.kp HK1.out
    have hle:=left_any h1
    have h':=hs1
    obtain⟨role,tv,gv,fv,glv,cv,tys,fs,h'⟩:=h'
    obtain⟨hc1,-⟩:=cells_of h'.look
    have HS1:=hide hs1
    have HLe:=hide hle
    have HR1:=hide hRw1
    clear h1 k1 hs1 hle h' hc hRw1
    by_cases hlong:I.D.length -j1<size
    ·have hlong':((I.D.length:Int) -j1)<size:=by omega
     have hL:=HL.out
     simp only[if_pos hlong]at hL
     have HL1:=hide hL
     clear hL HL
     go_wp2_with fail
     refine HLe.out.mono ?_
     rintro r w2 ⟨rfl,k2⟩
     go_wp2_with fail
     refine(form_any _ _).mono ?_
     rintro r w3 ⟨rfl,rfl⟩
     go_wp2
     go_ret
     rw[HM.out]
     show LDone _ _ _ (match bodiesM I.D (s.fns.map (·.typ)) s.gl (s.fns.map (·.typ)) s.code s.i with | .error e=> .error e| .ok ((fs,c),k)=> .ok {s with fns:=fs,code:=c,i:=k}) _∧_
     rw[HL1.out]
     have :=k2.size
     exact⟨⟨ptrTo w2.heap.size,rfl,w2.heap.size,rfl,by omega,heap_alloc_new _ _⟩,(HK1.out.trans k2.any).alloc _⟩
    ·have hlong': ¬((I.D.length:Int) -j1)<size:=by omega
     have hL:=HL.out
     simp only[if_neg hlong]at hL
     have HL1:=hide hL
     clear hL HL
     go_wp2_with fail
     refine HLe.out.mono ?_
     rintro r w2 ⟨rfl,k2⟩
     have hs2:=HS1.out.quiet k2
     have hR2:=HR1.out.kp (ro:=I.lo) (k2.any)
     have HK2:=hide (HK1.out.trans k2.any)
     have hszr2:=Nat.le_trans hszr1 k2.size
     clear k2 hc1
     obtain⟨role,tv,gv,fv,glv,cv,tys,fs,h'⟩:=hs2
     have hlen:(l++s.fns.drop k).length=s.fns.length:=by simp[hlk];omega
     obtain⟨a,cap,hfv,-,-⟩:=h'.funcs.form (show 0<(l++s.fns.drop k).length by omega)
     obtain⟨ad',cap',hfv',hcap⟩:=(RowAt.own h'.funcs).shape
     simp only at hfv hfv' hcap
     subst hfv
     cases hfv'
     rw[hlen]at hcap
     have hpa:=fun W (kW:Kp no w2 W)=>part_any (h'.quiet kW).rd size (by show j1+size≤I.D.length;omega) (by omega)
     have hlo:=h'.look
     have hmo:=h'.mod
     have n1:I.kb≠I.rb:=fun e=>by have :=h'.r3;rw[e,h'.r1]at this;cases this
     have n2:I.mb≠I.rb:=fun e=>by have :=h'.r2;rw[e,h'.r1]at this;cases this
     rw[hlen]at hmo
     obtain⟨S,hSd⟩: ∃S:World→Prop,S=fun w'=>(∀q,w'.cell? ⟨I.kb,q,none⟩= #[ptrTo I.rb,tv,gv,ptrTo I.mb][q]?)∧w'.cell? ⟨I.mb,0,none⟩=some (.slice (some ⟨a,0,none⟩) s.fns.length cap):=⟨_,rfl⟩
     have hSk: ∀W,Kp (one I.rb) w2 W→S W:=fun W kW=>by
      rw[hSd];exact⟨(cells_of (kW.blk hlo n1)).1,(cells_of (kW.blk hmo n2)).1 0⟩
     have HSk:=hide hSk
     have HSd:=hide hSd
     have H':=hide h'
     have HPa:=hide hpa
     have HR2:=hide hR2
     have HLen:=hide hlen
     have hwz:IntKind.i64.wrap (size:Int)=(size:Int):=by rw[IntKind.wrap_i64];omega
     clear h' hpa hR2 hlo hmo hSk hSd hlen
     go_wp2_with fail
     refine wp_region_S 17 (S) (by kernel_rfl) (n:=19) rfl rfl ?hS (fun hS=> ?_)
     case hS=>exact HSk.out _ ((Kp.refl _ _).drew)
     have hSd:=HSd.out
     subst hSd
     refine tk 0 [] rfl (by kernel_rfl) rfl (fun _ _ _ h=>h) hS (fun _ h=>by(try dsimp only at h);go_simp;all_goals with_reducible rfl) ?_
     simp only[pS]
     refine tk 1 [2,3,4,7] rfl (by kernel_rfl) rfl (fun _ _ _ h=>h) hS (fun _ h=>by(try dsimp only at h);go_simp;all_goals with_reducible rfl) ?_
     simp only[pS]
     refine tk 2 [3,4,7] rfl (by kernel_rfl) rfl (fun _ _ _ h=>h) hS (fun _ h=>by(try dsimp only at h);go_simp;all_goals with_reducible rfl) ?_
     simp only[pS]
     refine tk 3 [4,7] rfl (by kernel_rfl) rfl (fun _ _ _ h=>h) hS (fun _ h=>by(try dsimp only at h);go_simp;all_goals with_reducible rfl) ?_
     simp only[pS]
     refine tk 4 [7] rfl (by kernel_rfl) rfl (fun _ _ _ h=>h) hS (fun _ h=>by(try dsimp only at h);go_simp;all_goals with_reducible rfl) ?_
     simp only[pS]
     refine tk 5 [6,7] rfl (by kernel_rfl) rfl (fun _ _ _ h=>h) hS (fun _ h=>by(try dsimp only at h);go_simp;all_goals with_reducible rfl) ?_
     simp only[pS]
     refine tk 6 [7] rfl (by kernel_rfl) rfl (fun _ _ _ h=>h) hS (fun _ h=>by(try dsimp only at h);go_simp;all_goals with_reducible rfl) ?_
     simp only[pS]
     refine tk 8 [9,10,11,12,13,14,16] rfl (by kernel_rfl) rfl (fun _ _ _ h=>h) hS (fun _ h=>by(try dsimp only at h);go_simp;all_goals with_reducible rfl) ?_
     simp only[pS]
     refine tk 9 [10,11,12,13,14,16] rfl (by kernel_rfl) rfl (fun _ _ _ h=>h) hS (fun _ h=>by(try dsimp only at h);go_simp;all_goals with_reducible rfl) ?_
     simp only[pS]
     refine tk 10 [11,12,13,14,16] rfl (by kernel_rfl) rfl (fun _ _ _ h=>h) hS (fun _ h=>by(try dsimp only at h);go_simp;all_goals with_reducible rfl) ?_
     simp only[pS]
     refine tk 11 [12,13,14,16] rfl (by kernel_rfl) rfl (fun _ _ _ h=>h) hS (fun _ h=>by(try dsimp only at h);go_simp;all_goals with_reducible rfl) ?_
     simp only[pS]
     refine tk 12 [13,14,16] rfl (by kernel_rfl) rfl (fun _ _ _ h=>h) hS (fun _ h=>by(try dsimp only at h);go_simp;all_goals with_reducible rfl) ?_
     simp only[pS]
     refine tk 13 [14,16] rfl (by kernel_rfl) rfl (fun _ _ _ h=>h) hS (fun _ h=>by(try dsimp only at h);go_simp;all_goals with_reducible rfl) ?_
     simp only[pS]
     refine tk 14 [16] rfl (by kernel_rfl) rfl (fun _ _ _ h=>h) hS (fun _ h=>by(try dsimp only at h);go_simp;all_goals with_reducible rfl) ?_
     simp only[pS]
     refine tk 15 [16] rfl (by kernel_rfl) rfl (fun _ _ _ h=>h) hS (fun _ h=>by(try dsimp only at h);go_simp;all_goals with_reducible rfl) ?_
     simp only[pS]
     refine tk 16 [] rfl (by kernel_rfl) rfl (fun _ _ _ h=>h) hS (fun _ h=>by(try dsimp only at h);go_simp;all_goals with_reducible rfl) ?_
     simp only[pS]
     refine wpAnyS_one 7 rfl (by kernel_rfl) rfl (fun K hK=> ?_)
     refine step_call (by rfl) 113 _ _ (by rfl) enters_part _ (by rfl) (HPa.out _ ((Kp.refl _ _).drew)) ?_
     rintro e w3 ⟨⟨pb,dv',rfl,hpb,hrp,hdv',hrd3⟩,k3⟩
     have k23:Kp (one I.rb) w2 w3:=Kp.trans ((Kp.refl (one I.rb) w2).drew) k3
     refine⟨_,rfl,hK _ _ (HSk.out _ k23) (fun hS=> ?_)⟩
     clear hK K
     simp only[Act.put,List.setIfInBounds_toArray,List.set_cons_zero,List.set_cons_succ]
     have hRB3:=HR2.out.kp (ro:=I.lo) (w':=w3) (k23.mono (fun b _ (e:b=I.rb) (h:I.lo b)=>by have :=H'.out.low b h;rw[e,H'.out.r1]at this;cases this))
     have hty1: ∀x∈l++s.fns.drop k,x.typ.1.length≤8∧x.typ.2.length≤1:=fun x hx=>by
      have :x.typ∈(l++s.fns.drop k).map (·.typ):=List.mem_map_of_mem hx
      rw[HTy.out]at this
      obtain⟨y,hy,e⟩:=List.mem_map.1 this
      rw[←e]
      exact HT.out y hy
     have hgd:((l++s.fns.drop k).getD k ⟨([],[]),0,0⟩).typ=(s.fns.getD k ⟨([],[]),0,0⟩).typ:=by
      rw[List.getD_eq_getElem?_getD,List.getElem?_append_right (by omega),List.getElem?_drop,hlk,Nat.sub_self,Nat.add_zero,List.getD_eq_getElem?_getD]
     have hrb:=readBody_any (n:=k) H'.out k23 hrd3 hpb hrp hdv' (by show k<(l++s.fns.drop k).length;rw[HLen.out];exact hkn) hRB3 (by show(l++s.fns.drop k).length≤16;rw[HLen.out];exact nf) ng hty1 (by show c.length≤18*j1;omega)
     simp only at hrb
     rw[HTy.out,hgd]at hrb
     have hPl:(I.D.take (j1+size)).length=j1+size:=by rw[List.length_take];omega
     rw[hPl]at hrb
     have hL:=HL1.out
     have HK3:=hide (HK2.out.trans (k23.mono (fun b _ (e:b=I.rb) h=>by have :=H'.out.low b h;rw[e,H'.out.r1]at this;cases this)))
     have hszr3:=Nat.le_trans hszr2 k23.size
     have hpt:=fun f c'=>part_typ (P:=I.D.take (j1+size)) (ts:=s.fns.map (·.typ)) (gl:=s.gl) (typ:=(s.fns.getD k ⟨([],[]),0,0⟩).typ) (code:=c) (i:=j1) (f:=f) (c:=c')
     generalize partM (I.D.take (j1+size)) (s.fns.map (·.typ)) s.gl (s.fns.getD k ⟨([],[]),0,0⟩).typ c j1=Q2 at *
     have HRb:=hide hrb
     have HL2:=hide hL
     clear hrb hL hRB3 hty1 hgd hrp hdv' hrd3 k3 k23 hPl

     match Q2,HL2,HRb,hpt with
     | .error e,HL2,HRb,_=>
      refine wpAnyS_end 17 rfl (by kernel_rfl) rfl (by kernel_rfl) (fun K hK=> ?_)
      refine step_call (by rfl) 112 _ _ (by rfl) enters_readBody _ (by rfl) HRb.out ?_
      rintro e w4 ⟨⟨fv,rfl,fb,rfl,hfb,hfo⟩,k4⟩
      refine⟨_,rfl,hK _ _ ?_⟩
      clear hK K
      simp only[Act.put,List.setIfInBounds_toArray,List.set_cons_zero,List.set_cons_succ]
      refine wpAnyS_end 18 rfl (by kernel_rfl) rfl (by kernel_rfl) (fun K hK=> ?_)
      go_simp
      refine hK _ _ ?_
      clear hK K
      refine wpAnyS_done (by kernel_rfl) ?_ _
      have HF:=hide hfo
      have hfb':w.heap.size≤fb:=Nat.le_trans hszr3 hfb
      have HK4:=hide (HK3.out.trans k4)
      clear hfo k4 hS hfb
      go_wp2
      go_ret
      rw[HM.out]
      show LDone _ _ _ (match bodiesM I.D (s.fns.map (·.typ)) s.gl (s.fns.map (·.typ)) s.code s.i with | .error e=> .error e| .ok ((fs,c),k)=> .ok {s with fns:=fs,code:=c,i:=k}) _∧_
      rw[HL2.out]
      exact⟨⟨ptrTo fb,rfl,fb,rfl,hfb',HF.out⟩,HK4.out⟩
     | .ok (f,c'),HL2,HRb,hpt=>
      have HPt:=hide (hpt f c' rfl)
      clear hpt

      refine wpAnyS_end 17 rfl (by kernel_rfl) rfl (by kernel_rfl) (fun K hK=> ?_)
      refine step_call (by rfl) 112 _ _ (by rfl) enters_readBody _ (by rfl) HRb.out ?_
      rintro e w4 ⟨⟨rfl,h4,hc4⟩,k4⟩
      refine⟨_,rfl,hK _ _ ?_⟩
      clear hK K
      simp only[Act.put,List.setIfInBounds_toArray,List.set_cons_zero,List.set_cons_succ]
      refine wpAnyS_end 18 rfl (by kernel_rfl) rfl (by kernel_rfl) (fun K hK=> ?_)
      go_simp
      refine hK _ _ ?_
      clear hK K
      refine wpAnyS_done (by kernel_rfl) ?_ _
      have HK4:=hide (HK3.out.trans k4)
      have H4:=hide h4
      clear h4 k4 hS
      go_wp2
      go_roundw
      case rel=>
       have e1:(l++s.fns.drop k).set k f=(l++[f])++s.fns.drop (k+1):=by
        rw[List.set_append_right _ _ (by omega),hlk,Nat.sub_self,List.drop_eq_getElem_cons hkn,List.set_cons_zero,List.append_assoc];rfl
       have h8:=H4.out
       rw[e1]at h8
       refine⟨k+1,j1+size,l++[f],c',by omega,by go_num,by simp[hlk],h8,?_,by omega,HK4.out,?_⟩
       ·rw[←e1,List.map_set,HTy.out,HPt.out]
        have :(s.fns.getD k ⟨([],[]),0,0⟩).typ=(s.fns.map (·.typ))[k]'(by simpa using hkn):=by
         rw[List.getD_eq_getElem?_getD,List.getElem?_eq_getElem hkn];simp
        rw[this]
        exact List.set_getElem_self _
       ·rw[HL2.out]
      case measure=>simp[intOf];omega
  ·obtain rfl :k=s.fns.length:=by omega
   rw[List.drop_eq_nil_of_le (by simp),bodiesM,preB,List.append_nil]at hlab
   have HL:=hide hlab
   clear hlab hst hkp hty
   go_wp2
   go_ret
   rw[HM.out]
   show LDone _ _ _ (match bodiesM I.D (s.fns.map (·.typ)) s.gl (s.fns.map (·.typ)) s.code s.i with | .error e=> .error e| .ok ((fs,c),k)=> .ok {s with fns:=fs,code:=c,i:=k}) _∧_
   rw[HL.out]
   have hs:=HS.out
   rw[List.drop_length,List.append_nil]at hs
   exact⟨⟨rfl,hs⟩,HK.out⟩
end

end Go.Proofs.YtdeplgkhmebalaaGreatDoor

set_option linter.unusedSimpArgs false
set_option linter.unusedVariables false
namespace Go.Proofs.YtdeplgkhmebalaaGreatDoor
open Go.RowKit

def stage (I:LIds) (k:Nat) (s:Lkr):Except (Int×Int) Lkr:=
 match k with
 |0=>magicL I s
 |1=>typesL I s
 |2=>funcsL I s
 |3=>globsL I s
 |4=>pagesM I s
 |5=>bodiesL I s
 |_=>if s.i<I.D.length then .error (2,s.i)else .ok s
def stg (I:LIds):Nat→Lkr→Except (Int×Int) Lkr
 |0,s=> .ok s
 |n+1,s=>match stage I (6 -n) s with
  | .error e=> .error e
  | .ok s'=>stg I n s'

structure Inv (k:Nat) (s:Lkr):Prop where
 t0:k≤1→s.types=[]
 f0:k≤2→s.fns=[]
 g0:k≤3→s.gl=[]∧s.vals=[]
 c0:k≤5→s.code=[]
 tn:s.types.length≤16
 tl: ∀x∈s.types,x.1.length≤8∧x.2.length≤1
 fl: ∀x∈s.fns,x.typ.1.length≤8∧x.typ.2.length≤1
 fn:k≤5→s.fns.length≤16
 gn:s.gl.length≤8

theorem manyM_all {α:Type} {one:Nat→Rd α} {p:α→Prop} (h1: ∀i x j,one i= .ok (x,j)→p x): ∀(n i:Nat) (l:List α) (j:Nat),manyM one n i= .ok (l,j)→l.length=n∧ ∀x∈l,p x
 |0,i,l,j,h=>by cases h;exact⟨rfl,fun x hx=>by cases hx⟩
 |n+1,i,l,j,h=>by
  rw[manyM]at h
  split at h
  ·cases h
  ·rename_i hx
   split at h
   ·cases h
   ·rename_i hl
    cases h
    obtain⟨a,b⟩:=manyM_all h1 n _ _ _ hl
    refine⟨by simp[a],fun y hy=> ?_⟩
    rcases List.mem_cons.1 hy with rfl |hy
    ·exact h1 _ _ _ hx
    ·exact b y hy
theorem typeM_ok {D:List UInt8} (i:Nat) (x:Ty) (j:Nat) (h:typeM D i= .ok (x,j)):x.1.length≤8∧x.2.length≤1:=by
 unfold typeM at h
 split at h
 ·cases h
 ·rename_i hp
  split at h
  ·cases h
  ·rename_i hr
   cases h
   exact⟨list_len hp,list_len hr⟩

theorem Inv.step {I:LIds} {k:Nat} {s s':Lkr} (h:Inv k s) (hk:k≤4) (hs:stage I k s= .ok s'):Inv (k+1) s':=by
 match k,h,hk,hs with
 |0,h,_,hs=>
  simp only[stage,magicL]at hs
  split at hs
  ·cases hs
  ·cases hs
   exact⟨fun _=>h.t0 (by decide),fun _=>h.f0 (by decide),fun _=>h.g0 (by decide),fun _=>h.c0 (by decide),h.tn,h.tl,h.fl,fun _=>h.fn (by decide),h.gn⟩
 |1,h,_,hs=>
  simp only[stage,typesL]at hs
  split at hs
  ·cases hs
  ·rename_i n j hb
   split at hs
   ·cases hs
   ·rename_i l k hl
    cases hs
    have hn:=(below_lt hb).1
    obtain⟨a,b⟩:=manyM_all typeM_ok n _ _ _ hl
    have e:=h.t0 (by decide)
    refine⟨fun h=>by omega,fun _=>h.f0 (by decide),fun _=>h.g0 (by decide),fun _=>h.c0 (by decide),?_,?_,h.fl,fun _=>h.fn (by decide),h.gn⟩
    ·simp[e,a];omega
    ·intro x hx;simp[e]at hx;exact b x hx
 |2,h,_,hs=>
  simp only[stage,funcsL]at hs
  split at hs
  ·cases hs
  ·rename_i n j hb
   split at hs
   ·cases hs
   ·rename_i l k hl
    cases hs
    have hn:=(below_lt hb).1
    obtain⟨a,b⟩:=manyM_all (p:=fun x:Ty=>x.1.length≤8∧x.2.length≤1) (fun i x j hx=>by
     unfold fnOne at hx
     split at hx
     ·cases hx
     ·rename_i q j' hq
      cases hx
      have hlt:=(below_lt hq).1
      have hm:s.types.getD q ([],[])∈s.types:=by
       rw[List.getD_eq_getElem?_getD,List.getElem?_eq_getElem (by omega)];exact List.getElem_mem _
      exact h.tl _ hm) n _ _ _ hl
    have e:=h.f0 (by decide)
    refine⟨fun h=>by omega,fun h=>by omega,fun _=>h.g0 (by decide),fun _=>h.c0 (by decide),h.tn,h.tl,?_,fun _=> ?_,h.gn⟩
    ·intro x hx
     simp[e]at hx
     obtain⟨y1,y2,hy,rfl⟩:=hx
     exact b _ hy
    ·simp[e,a];omega
 |3,h,_,hs=>
  simp only[stage,globsL]at hs
  split at hs
  ·cases hs
  ·rename_i n j hb
   split at hs
   ·cases hs
   ·rename_i l k hl
    cases hs
    have hn:=(below_lt hb).1
    obtain⟨a,b⟩:=manyM_all (p:=fun _=>True) (fun _ _ _ _=>trivial) n _ _ _ hl
    have e:=h.g0 (by decide)
    refine⟨fun h=>by omega,fun h=>by omega,fun h=>by omega,fun _=>h.c0 (by decide),h.tn,h.tl,h.fl,fun _=>h.fn (by decide),?_⟩
    simp[e.1,a];omega
 |4,h,_,hs=>
  simp only[stage,pagesM]at hs
  split at hs
  ·cases hs
  ·cases hs
   exact⟨fun h=>by omega,fun h=>by omega,fun h=>by omega,fun _=>h.c0 (by decide),h.tn,h.tl,h.fl,fun _=>h.fn (by decide),h.gn⟩

def lk0:Lkr:=⟨0,[],[],[],[],0,[]⟩
theorem Inv.zero:Inv 0 lk0:=⟨fun _=>rfl,fun _=>rfl,fun _=>⟨rfl,rfl⟩,fun _=>rfl,by simp[lk0],fun x hx=>by simp[lk0]at hx,fun x hx=>by simp[lk0]at hx,fun _=>by simp[lk0],by simp[lk0]⟩

theorem funcsM_eq (D:List UInt8) (ts:List Ty) (i:Nat):funcsM D ts i=(match belowM D 17 i with | .error e=> .error e| .ok (n,j)=>manyM (fnOne D ts) n j):=rfl
theorem load_eq (I:LIds) (hD:I.D.length≤2000):loadM I.D=(match stg I 7 lk0 with | .error e=> .error e| .ok s=> .ok ⟨s.fns,s.vals,s.pages,s.code⟩):=by
 unfold loadM
 rw[if_neg (by omega)]
 simp only[stg,stage,magicL,lk0]
 cases magicM I.D 0 with
 |error e=>rfl
 |ok x1=>
  obtain⟨u,i1⟩:=x1
  simp only[typesL,typesM]
  cases belowM I.D 17 i1 with
  |error e=>rfl
  |ok x2=>
   obtain⟨n2,j2⟩:=x2
   simp only
   cases manyM (typeM I.D) n2 j2 with
   |error e=>rfl
   |ok x3=>
    obtain⟨ts,i3⟩:=x3
    simp only[funcsL,funcsM_eq,List.nil_append]
    cases belowM I.D 17 i3 with
    |error e=>rfl
    |ok x4=>
     obtain⟨n4,j4⟩:=x4
     simp only
     cases manyM (fnOne I.D ts) n4 j4 with
     |error e=>rfl
     |ok x5=>
      obtain⟨fs,i5⟩:=x5
      simp only[globsL,globsM,List.nil_append]
      cases belowM I.D 9 i5 with
      |error e=>rfl
      |ok x6=>
       obtain⟨n6,j6⟩:=x6
       simp only
       cases manyM (globM I.D) n6 j6 with
       |error e=>rfl
       |ok x7=>
        obtain⟨gs,i7⟩:=x7
        simp only[pagesM]
        cases belowM I.D 5 i7 with
        |error e=>rfl
        |ok x8=>
         obtain⟨pages,i8⟩:=x8
         simp only[bodiesL,List.map_map]
         have e:(fs.map ((fun x:FnM=>x.typ)∘fun t=>⟨t,0,0⟩))=fs:=by
          rw[show((fun x:FnM=>x.typ)∘fun t=>⟨t,0,0⟩)=id from rfl,List.map_id]
         rw[e]
         cases bodiesM I.D fs (gs.map (·.1)) fs [] i8 with
         |error e=>rfl
         |ok x9=>
          obtain⟨⟨fns,code⟩,i9⟩:=x9
          simp only
          by_cases hlt:i9<I.D.length
          ·simp[hlt]
          ·simp[hlt]

end Go.Proofs.YtdeplgkhmebalaaGreatDoor
