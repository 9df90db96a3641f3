/- The program's look at a body: END. -/
import Derived.Test.YtdeplgkhmebalaaGreatDoorP21

set_option linter.unusedSimpArgs false
set_option linter.unusedVariables false
set_option maxHeartbeats 4000000
set_option maxRecDepth 100000
namespace Go.Proofs.YtdeplgkhmebalaaGreatDoor
open Go.RowKit

section
variable{E:Env} {g N:Nat} {w:World} {s:Bd}

theorem BSt.endAt (h:BSt E g w s) {k:Nat} (hk:k<s.blocks.length) (hn:(s.bk k).height≤s.stack.length): ∃ad cap kc rv,w.heap[E.bb]? =some (bodyObj E g s (.slice ad s.stack.length cap) kc)∧s.stack.length≤cap∧(ad=none→cap=0)∧
  w.cell? ⟨g,k*5+2,none⟩=some (.int .i64 (s.bk k).height)∧w.cell? ⟨g,k*5+1,none⟩=some rv∧BytesAt w rv (s.bk k).result∧g≠E.bb∧some E.bb≠(Value.slice ad (s.bk k).height cap).ownBlock∧some g≠(Value.slice ad (s.bk k).height cap).ownBlock∧
  (∀W,Kp no w W→W.ownsRow E.B 5 1 (.slice ad (s.bk k).height cap) (s.bk k).height ((s.stack.take (s.bk k).height).map fun c=> .int .u8 c.toNat))∧
  (∀W w1 v1 m xs,Kp no w W→m=(s.bk k).height+(s.bk k).result.length→xs=((s.stack.take (s.bk k).height).map fun c=> .int .u8 c.toNat)++((s.bk k).result.map fun c=> .int .u8 c.toNat)→w1.ownsRow E.B 5 1 v1 m xs→W.grownBy w1 (Value.slice ad (s.bk k).height cap).ownBlock→(v1.ownBlock=(Value.slice ad (s.bk k).height cap).ownBlock∨v1.ownBlock=some W.heap.size)→
   BSt E g (w1.setCell ⟨E.bb,4,none⟩ v1) {s with stack:=s.stack.take (s.bk k).height++(s.bk k).result}∧Kp (nro E.ro) w (w1.setCell ⟨E.bb,4,none⟩ v1)):=by
 obtain⟨role,sv,cv,kc,bs,h⟩:=h
 obtain⟨rv,wv,hbs,h1,h2,h3,h4,h5⟩:=h.bk hk
 obtain⟨ad,cap,hsv,hcap,hnil⟩: ∃ad cap,sv= .slice ad s.stack.length cap∧s.stack.length≤cap∧(ad=none→cap=0):=by
  obtain⟨e1,⟨rfl,e3⟩|⟨g',cap',cur,rfl,-,-,hc,-⟩⟩:=h.stack
  ·exact⟨none,0,by rw[e3],by omega,fun _=>rfl⟩
  ·exact⟨_,cap',rfl,hc,(fun h=>by cases h)⟩
 have hob: ∀n,(Value.slice ad n cap).ownBlock=sv.ownBlock:=by intro n;rw[hsv];cases ad<;>rfl
 refine⟨ad,cap,kc,rv,by rw[←hsv];exact h.body,hcap,hnil,h3,h2,h.results k _ hbs,fun e=> ?_,fun e=> ?_,fun e=> ?_,?_,?_⟩
 ·have :=h.r5;rw[e,h.r3]at this;cases this
 ·rw[hob]at e;have :=h.r4 _ e.symm;rw[h.r3]at this;cases this
 ·rw[hob]at e;have :=h.r4 _ e.symm;rw[h.r5]at this;cases this
 ·intro W kW
  have ho:=kW.own h.stack (fun _ _ h=>h)
  have hlen:(s.stack.take (s.bk k).height).length=(s.bk k).height:=by simp;omega
  obtain⟨e1,⟨e2,e3⟩|⟨g',cap',cur,hv,hb,hh,hc,hm,hsz,ht⟩⟩:=ho
  ·rw[hsv]at e2
   simp only[Value.slice.injEq]at e2
   obtain⟨rfl,-,rfl⟩:=e2
   have hn0:(s.bk k).height=0:=by omega
   rw[hn0]
   exact⟨by simp,.inl ⟨by simp,by simp⟩⟩
  ·rw[hsv]at hv
   simp only[Value.slice.injEq]at hv
   obtain⟨rfl,-,rfl⟩:=hv
   refine⟨by simp;omega,.inr ⟨g',cap,cur,rfl,hb,hh,by omega,hm,hsz,?_⟩⟩
   rw[List.map_take,←ht,List.take_take]
   congr 1
   omega
 ·intro W w1 v1 m xs kW hm hxs ho hg ha
  exact endstack_end h hn _ (hob _) kW hm hxs ho hg ha
theorem BSt.pop (h:BSt E g w s): ∃sv kc,w.heap[E.bb]? =some (bodyObj E g s sv kc)∧(∃ad cap,sv= .slice ad s.stack.length cap)∧s.blocks.length≤kc∧ ∀n W,n≤s.blocks.length→Kp no w W→BSt E g (W.setCell ⟨E.bb,5,none⟩ (.slice (some ⟨g,0,none⟩) n kc)) {s with blocks:=s.blocks.take n}∧Kp (one E.bb) w (W.setCell ⟨E.bb,5,none⟩ (.slice (some ⟨g,0,none⟩) n kc)):=by
 obtain⟨role,sv,cv,kc,bs,h⟩:=h
 have hkc:s.blocks.length≤kc:=by
  obtain⟨ad,cap,hv,hc⟩:=(RowAt.own h.blocks).shape
  cases hv;exact hc
 exact⟨sv,kc,h.body,own_shape h.stack,hkc,fun n W hn kW=>pop_end h hn kW⟩
theorem CodeB.back {w3 wr:World} (k:Kp (CodeB E w3) w3 wr) (h:BSt E g w3 s) (hm: ¬CodeB E w3 E.mb) {b:Nat} (hb:CodeB E wr b):CodeB E w3 b:=by
 obtain⟨cv,hmo,-⟩:=h.modAt
 have h1:=(cells_of hmo).1 3
 obtain⟨n,c,h2⟩:=hb
 have h3:wr.cell? ⟨E.mb,3,none⟩=some cv:=k.cell (p:=⟨E.mb,3,none⟩) h1 hm
 rw[h3]at h2
 exact⟨n,c,by rw[h1];exact h2⟩

theorem end_ok_other (h:BSt E g w s) (z:Sz N s) (hN:N≤500000) (hne:s.blocks≠[]) (hfl:fullM s (s.blocks.length -1)=true) (hkd:s.top.kind≠3∧s.top.kind≠0):Calls Tryz.prog 257 #[ptrTo E.bb] w fun r w'=>Done E w w' (endM s) r∧Kp (nro E.ro) w w':=by
 have hl:0<s.blocks.length:=List.length_pos_iff.2 hne
 have hkl:s.blocks.length -1<s.blocks.length:=by omega
 have htop:s.top=s.bk (s.blocks.length -1):=rfl
 obtain⟨s1,hs1⟩: ∃s1,s1=s:=⟨_,rfl⟩
 obtain⟨s2,hs2⟩: ∃s2,s2=aimAll s.top.waits s1:=⟨_,rfl⟩
 obtain⟨s3,hs3⟩: ∃s3,s3=s2:=⟨_,rfl⟩
 have e1:s1.stack=s.stack∧s1.blocks=s.blocks∧s1.code.length=s.code.length∧s1.pos=s.pos:=by rw[hs1];exact⟨rfl,rfl,by first |rfl |simp[aimM],rfl⟩
 have e2:s2.stack=s.stack∧s2.blocks=s.blocks∧s2.code.length=s.code.length:=by
  obtain⟨a1,a2,-,-,-,a6⟩:=aimAll_same s.top.waits s1
  rw[hs2];exact⟨a1.trans e1.1,a2.trans e1.2.1,a6.trans e1.2.2.1⟩
 have e3:s3.stack=s.stack∧s3.blocks=s.blocks:=by rw[hs3];exact⟨e2.1,e2.2.1⟩
 have hM:endM s= .ok {s3 with stack:=s.stack.take s.top.height++s.top.result,blocks:=s.blocks.take (s.blocks.length -1),closed:=false}:=by
  unfold endM
  rw[if_neg (by simp[hfl,hkd.1])]
  simp only[if_neg hkd.1,if_neg hkd.2]
  have hX:aimAll s.top.waits s=s3:=by rw[hs3,hs2,hs1]
  rw[hX,e3.1,e3.2]
 have hst:=z.st
 have hbl:=z.bl
 have hcd:=z.cd
 have hw:=z.wt _ hkl
 have hhe:=z.height hkl
 have hin:=inner_any' h hne (by omega)
 have hfu:=fun W (kW:Kp no w W)=>full_any (h.quiet kW) (k:=s.blocks.length -1) hkl hhe (by omega)
 rw[hfl]at hfu
 rw[←htop]at hw hhe
 have hbk: ∀t:Bd,t.blocks=s.blocks→t.bk (s.blocks.length -1)=s.top:=fun t ht=>by unfold Bd.top Bd.bk;rw[ht]
 have hki: ∀W,Kp no w W→W.cell? ⟨g,(s.blocks.length -1)*5,none⟩=some (.int .i64 s.top.kind)∧W.cell? ⟨g,(s.blocks.length -1)*5+3,none⟩=some (.int .i64 s.top.start)∧ ∃adr capr,W.cell? ⟨g,(s.blocks.length -1)*5+1,none⟩=some (.slice adr s.top.result.length capr):=by
  intro W kW
  obtain⟨rv,wv,hcl,hbr,-⟩:=h.blkAt hkl
  obtain⟨h1,h2,-,h4,-,-⟩:=hcl W kW
  obtain⟨adr,capr,hrv,-⟩:=hbr.shape
  rw[hrv]at h2
  exact⟨h1,h4,adr,capr,h2⟩
 have hai:=fun W (h1:BSt E g W s) (hlt:s.top.start -1<s.code.length)=>aim_any2 h1 (n:=s.top.start -1) hlt (by omega)
 have hwa:=fun W (h1:BSt E g W s1)=>h1.waitsAt (k:=s.blocks.length -1) (by rw[e1.2.1];exact hkl)
 rw[hbk s1 e1.2.1]at hwa
 have haw:=fun W k n (h1:BSt E g W (aimAll (s.top.waits.take k) s1)) (hn:n<s.code.length)=>aim_any2 h1 (n:=n) (by rw[(aimAll_same _ s1).2.2.2.2.2,e1.2.2.1];exact hn) (by rw[(aimAll_same _ s1).2.2.2.2.2,e1.2.2.1];omega)
 have hem:=fun W (h1:BSt E g W s2)=>emit_any h1 ⟨11,0,0,0,0⟩ (by rw[e2.2.2];omega)
 have hea:=fun W (h1:BSt E g W s3)=>h1.endAt (k:=s.blocks.length -1) (by rw[e3.2];exact hkl) (by rw[hbk s3 e3.2,e3.1];exact hhe)
 rw[hbk s3 e3.2,e3.1]at hea
 have hmem: ∀k,k<s.top.waits.length→s.top.waits.getD k 0<s.code.length:=fun k hk=>hw.2.2.2.1 _ (by simp[List.getD,List.getElem?_eq_getElem hk])
 have htk: ∀k,k<s.top.waits.length→aimAll (s.top.waits.take (k+1)) s1=aimM (aimAll (s.top.waits.take k) s1) (s.top.waits.getD k 0):=fun k hk=>by
  rw[List.take_add_one,aimAll,List.foldl_append];simp[List.getElem?_eq_getElem hk,aimAll]
 have hall:aimAll (s.top.waits.take s.top.waits.length) s1=s2:=by rw[List.take_length,hs2]
 have h0:aimAll (s.top.waits.take 0) s1=s1:=rfl
 have hst3:1≤s.top.start∧s.top.start≤s.code.length∨s.top.kind≠3:=(Classical.em (s.top.kind=3)).imp hw.2.2.2.2 id
 obtain⟨i0,hi0,hz0,hz1,hz2⟩:=info_parts info_u8
 have H:=hide h
 have HI:=hide hin
 have HF:=hide hfu
 have HKi:=hide hki
 have HA:=hide hai
 have HWa:=hide hwa
 have HAw:=hide haw
 have HEm:=hide hem
 have HEa:=hide hea
 have HM:=hide hM
 have HMem:=hide hmem
 have HTk:=hide htk
 have HAll:=hide hall
 have H00:=hide h0
 have HS1:=hide hs1
 have HS3:=hide hs3
 have HE3:=hide e3
 have hB:=h.env.base
 have hw1:=hw.1
 have hw2:=hw.2.1
 have hw3:=hw.2.2.1
 clear h hin hfu hki hai hwa haw hem hea hM hmem htk hall h0 hs1 hs2 hs3 e1 e2 e3 htop hbk z hw hfl
 generalize s.top.waits=ws at *
 generalize s.top.height=ht at *
 generalize s.top.start=sr at *
 generalize s.top.result=res at *
 generalize s.top.kind=kd at *
 have q3:((kd:Int)==3)=false:=by have :=hkd.1;simp;omega
 have q0:((kd:Int)==0)=false:=by have :=hkd.2;simp;omega
 clear hkd hst3
 go_enter Tryz.func257,Tryz.ntmps257
 go_wp2_with fail
 refine HI.out.mono ?_
 rintro e w1 ⟨rfl,k1⟩
 have HF1:=hide (HF.out w1 k1)
 have HK1:=hide k1
 clear k1
 go_wp2_with fail
 refine HF1.out.mono ?_
 rintro e w2 ⟨rfl,k2⟩
 have HK:=hide (HK1.out.trans k2)
 obtain⟨hkc,hsc,adr,capr,hrc⟩:=HKi.out w2 HK.out
 have H2:=hide (H.out.quiet HK.out)
 clear k2
 have h3:=H2.out
 rw[←HS1.out]at h3
 have H3:=hide h3
 clear h3
 obtain⟨wv,hwc,hwr,hwo,hwm,hwg,hwb⟩:=HWa.out w2 H3.out
 obtain⟨adw,capw,rfl,hcapw⟩:=hwr.shape
 have HWr:=hide hwr
 have HWo:=hide hwo
 have HWm:=hide hwm
 clear hwr hwo hwm hwg hwb
 go_wp2
 go_loopw [46] (fun kv wr=> ∃k:Nat,k≤ws.length∧kv= .int .i64 k∧BSt E g wr (aimAll (ws.take k) s1)∧Kp (CodeB E w2) w2 wr) (fun kv _=>ws.length - (intOf kv).toNat)
 case atStart=>exact⟨0,Nat.zero_le _,rfl,by rw[H00.out];exact H3.out,Kp.refl _ _⟩
 case round=>
  obtain⟨k,hk,rfl,hrst,hrk⟩:=hrel
  have HR:=hide hrst
  have HRK:=hide hrk
  clear hrst hrk
  by_cases hkw:k<ws.length
  ·obtain⟨a,o,cap',hv,_,hcell⟩:=RowAt.get (HWr.out.kp HRK.out (fun b hb hc=>HWo.out b hb hc)) (k:=k) (x:= .int .i64 (ws.getD k 0:Nat)) (by simp[List.getD,List.getElem?_eq_getElem hkw])
   simp only[Value.slice.injEq]at hv
   obtain⟨rfl,-,rfl⟩:=hv
   have hAk:=HAw.out wr k _ HR.out (HMem.out k hkw)
   have htk:=HTk.out k hkw
   generalize ws.getD k 0=q at *
   have HAk:=hide hAk
   have HTk1:=hide htk
   clear hAk htk
   go_wp2_with fail
   refine HAk.out.mono ?_
   rintro e w4 ⟨rfl,h4,k4⟩
   have H4:=hide h4
   have HK4:=hide (HRK.out.trans (k4.mono (fun b _ hb=>hb.back HRK.out H3.out HWm.out)))
   clear h4 k4
   go_wp2
   go_roundw
   case rel=>exact⟨k+1,by omega,by go_num,by rw[HTk1.out];exact H4.out,HK4.out⟩
   case measure=>simp[intOf];omega
  ·obtain rfl :k=ws.length:=by omega
   have h5:=HR.out
   rw[HAll.out]at h5
   have H5:=hide h5
   have HKw:=hide ((Kp.any HK.out:Kp (nro E.ro) w w2).trans (H3.out.nroCode HRK.out))
   have hk5:wr.cell? ⟨g,(s.blocks.length -1)*5,none⟩=some (.int .i64 (kd:Nat)):=HRK.out.cell (p:=⟨g,(s.blocks.length -1)*5,none⟩) hkc (by obtain⟨wv,-,-,-,-,hg,-⟩:=HWa.out w2 H3.out;exact hg)
   clear h5 hwc hkc hsc hrc
   have h6:=H5.out
   rw[←HS3.out]at h6
   have H6:=hide h6
   have HK6:=HKw
   clear h6
   obtain⟨ad,cap,kc,rv,hbo,hcap,hnil,hhc,hrc6,hbr6,hgb,n1,n2,hown,hend⟩:=HEa.out wr H6.out
   simp only[bodyObj,HE3.out.2]at hbo
   obtain⟨hc6,hf6⟩:=cells_of hbo
   obtain⟨adr6,capr6,rfl,-⟩:=hbr6.shape
   have hlb:E.bb<wr.heap.size:=lt_of_blk hbo
   have hB6:E.B≤wr.heap.size:=by have :=HK6.out.size;omega
   have HOw:=hide hown
   have HEn:=hide hend
   have HBr:=hide hbr6
   clear hbo hown hend hbr6
   go_wp2_with fail
   cases ad with
   |none=>
    have hcap0:=hnil rfl
    subst hcap0
    have hh0:ht=0:=by omega
    subst hh0
    clear hnil
    go_region_law ((refine step_append_at _ (by rfl) _ _ _ (by rfl) E.B 5 i0 _ 1 1 Tryz.underlying25 hi0 hz0 hz1 hz2 rfl (by omega) _ _ _ (by rfl) (HOw.out wr.drew ((Kp.refl no _).drew)) _ res.length _ (by rfl) (HBr.out.kp ((Kp.refl no wr).drew) (fun _ _ h=>h)) (bytes_oneCell _) (by simp only[maxLen];omega) (by omega) hB6 ?_;intro v1 w7 hown1 hgrow hat;obtain⟨ad1,cap1,rfl⟩:=own_shape hown1;have hmc1:=(hgrow.cell_far ⟨E.bb,4,none⟩ (by simpa using hlb) n1).trans (hc6 4);have hmf1:=(hgrow.frozen_far ⟨E.bb,4,none⟩ (by simpa using hlb) n1).trans (hf6 4)))
    all_goals
     obtain⟨h8,k8⟩:=HEn.out _ _ _ _ _ ((Kp.refl no _).drew) rfl rfl hown1 hgrow hat
     simp only[Nat.zero_add]at h8 k8
     generalize World.setCell w7 ⟨E.bb,4,none⟩ (.slice ad1 res.length cap1)=w8 at *
     obtain⟨sv8,kc8,hbo8,⟨ad8,cap8,hsv8⟩,hkc8,hpop⟩:=h8.pop
     subst hsv8
     simp only[HE3.out.2]at hkc8 hpop
     simp only[bodyObj,HE3.out.2]at hbo8
     obtain⟨hc8,hf8⟩:=cells_of hbo8
     have H8:=hide h8
     have HK8:=hide (HK6.out.trans k8)
     have HPo:=hide hpop
     clear h8 k8 hbo8 hpop hown1 hgrow hat hmc1 hmf1
     go_wp2_with fail
     go_region
     all_goals
      go_wp2
      go_ret
      rw[HM.out]
      obtain⟨h9,k9⟩:=HPo.out (s.blocks.length -1) w8 (by omega) (Kp.refl no w8)
      obtain⟨h10,k10⟩:=closed_end h9 false
      exact⟨⟨rfl,g,h10.quiet ((Kp.refl no _).drew)⟩,((HK8.out.trans (H8.out.nroBb k9)).trans (h9.nroBb k10)).drew⟩
   |some a=>
    clear hnil
    obtain⟨a,oa,fa⟩:=a
    have hhc2:ht≤cap:=by omega
    go_region_law ((refine step_append_at _ (by rfl) _ _ _ (by rfl) E.B 5 i0 _ 1 1 Tryz.underlying25 hi0 hz0 hz1 hz2 rfl (by omega) _ _ _ (by rfl) (HOw.out wr.drew ((Kp.refl no _).drew)) _ res.length _ (by rfl) (HBr.out.kp ((Kp.refl no wr).drew) (fun _ _ h=>h)) (bytes_oneCell _) (by simp only[maxLen];omega) (by omega) hB6 ?_;intro v1 w7 hown1 hgrow hat;obtain⟨ad1,cap1,rfl⟩:=own_shape hown1;have hmc1:=(hgrow.cell_far ⟨E.bb,4,none⟩ (by simpa using hlb) n1).trans (hc6 4);have hmf1:=(hgrow.frozen_far ⟨E.bb,4,none⟩ (by simpa using hlb) n1).trans (hf6 4)))
    all_goals
     obtain⟨h8,k8⟩:=HEn.out _ _ _ _ _ ((Kp.refl no _).drew) rfl rfl hown1 hgrow hat
     generalize World.setCell w7 ⟨E.bb,4,none⟩ (.slice ad1 (ht+res.length) cap1)=w8 at *
     obtain⟨sv8,kc8,hbo8,⟨ad8,cap8,hsv8⟩,hkc8,hpop⟩:=h8.pop
     subst hsv8
     simp only[HE3.out.2]at hkc8 hpop
     simp only[bodyObj,HE3.out.2]at hbo8
     obtain⟨hc8,hf8⟩:=cells_of hbo8
     have H8:=hide h8
     have HK8:=hide (HK6.out.trans k8)
     have HPo:=hide hpop
     clear h8 k8 hbo8 hpop hown1 hgrow hat hmc1 hmf1
     go_wp2_with fail
     go_region
     all_goals
      go_wp2
      go_ret
      rw[HM.out]
      obtain⟨h9,k9⟩:=HPo.out (s.blocks.length -1) w8 (by omega) (Kp.refl no w8)
      obtain⟨h10,k10⟩:=closed_end h9 false
      exact⟨⟨rfl,g,h10.quiet ((Kp.refl no _).drew)⟩,((HK8.out.trans (H8.out.nroBb k9)).trans (h9.nroBb k10)).drew⟩
end

end Go.Proofs.YtdeplgkhmebalaaGreatDoor
