/- The program's look at a body: END. -/
import Derived.Test.YtdeplgkhmebalaaGreatDoorP25
import Derived.Test.YtdeplgkhmebalaaGreatDoorP21
import Derived.Test.YtdeplgkhmebalaaGreatDoorP20

set_option linter.unusedSimpArgs false
set_option linter.unusedVariables false
set_option maxHeartbeats 4000000
set_option maxRecDepth 100000
namespace Go.Proofs.YtdeplgkhmebalaaGreatDoor
open Go.RowKit

section
variable{E:Env} {g N:Nat} {w:World} {s:Bd}

theorem end_ok_whole (h:BSt E g w s) (z:Sz N s) (hN:N≤500000) (hne:s.blocks≠[]) (hfl:fullM s (s.blocks.length -1)=true) (hkd:s.top.kind=0):Calls Tryz.prog 257 #[ptrTo E.bb] w fun r w'=>Done E w w' (endM s) r∧Kp (nro E.ro) w w':=by
 have hl:0<s.blocks.length:=List.length_pos_iff.2 hne
 have hkl:s.blocks.length -1<s.blocks.length:=by omega
 have htop:s.top=s.bk (s.blocks.length -1):=rfl
 obtain⟨s1,hs1⟩: ∃s1,s1=s:=⟨_,rfl⟩
 obtain⟨s2,hs2⟩: ∃s2,s2=aimAll s.top.waits s1:=⟨_,rfl⟩
 obtain⟨s3,hs3⟩: ∃s3,s3=emitM s2 ⟨11,0,0,0,0⟩:=⟨_,rfl⟩
 have e1:s1.stack=s.stack∧s1.blocks=s.blocks∧s1.code.length=s.code.length∧s1.pos=s.pos:=by rw[hs1];exact⟨rfl,rfl,by first |rfl |simp[aimM],rfl⟩
 have e2:s2.stack=s.stack∧s2.blocks=s.blocks∧s2.code.length=s.code.length:=by
  obtain⟨a1,a2,-,-,-,a6⟩:=aimAll_same s.top.waits s1
  rw[hs2];exact⟨a1.trans e1.1,a2.trans e1.2.1,a6.trans e1.2.2.1⟩
 have e3:s3.stack=s.stack∧s3.blocks=s.blocks:=by rw[hs3];exact⟨e2.1,e2.2.1⟩
 have hM:endM s= .ok {s3 with stack:=s.stack.take s.top.height++s.top.result,blocks:=s.blocks.take (s.blocks.length -1),closed:=false}:=by
  unfold endM
  rw[if_neg (by simp[hfl,hkd])]
  simp only[hkd,show ¬((0:Nat)=3)by decide,if_false,if_true]
  have hX:emitM (aimAll s.top.waits s) ⟨11,0,0,0,0⟩=s3:=by rw[hs3,hs2,hs1]
  rw[hX,e3.1,e3.2]
 have hst:=z.st
 have hbl:=z.bl
 have hcd:=z.cd
 have hw:=z.wt _ hkl
 have hhe:=z.height hkl
 have hin:=inner_any' h hne (by omega)
 have hfu:=fun W (kW:Kp no w W)=>full_any (h.quiet kW) (k:=s.blocks.length -1) hkl hhe (by omega)
 rw[hfl]at hfu
 rw[←htop]at hw hhe
 have hbk: ∀t:Bd,t.blocks=s.blocks→t.bk (s.blocks.length -1)=s.top:=fun t ht=>by unfold Bd.top Bd.bk;rw[ht]
 have hki: ∀W,Kp no w W→W.cell? ⟨g,(s.blocks.length -1)*5,none⟩=some (.int .i64 s.top.kind)∧W.cell? ⟨g,(s.blocks.length -1)*5+3,none⟩=some (.int .i64 s.top.start)∧ ∃adr capr,W.cell? ⟨g,(s.blocks.length -1)*5+1,none⟩=some (.slice adr s.top.result.length capr):=by
  intro W kW
  obtain⟨rv,wv,hcl,hbr,-⟩:=h.blkAt hkl
  obtain⟨h1,h2,-,h4,-,-⟩:=hcl W kW
  obtain⟨adr,capr,hrv,-⟩:=hbr.shape
  rw[hrv]at h2
  exact⟨h1,h4,adr,capr,h2⟩
 have hai:=fun W (h1:BSt E g W s) (hlt:s.top.start -1<s.code.length)=>aim_any2 h1 (n:=s.top.start -1) hlt (by omega)
 have hwa:=fun W (h1:BSt E g W s1)=>h1.waitsAt (k:=s.blocks.length -1) (by rw[e1.2.1];exact hkl)
 rw[hbk s1 e1.2.1]at hwa
 have haw:=fun W k n (h1:BSt E g W (aimAll (s.top.waits.take k) s1)) (hn:n<s.code.length)=>aim_any2 h1 (n:=n) (by rw[(aimAll_same _ s1).2.2.2.2.2,e1.2.2.1];exact hn) (by rw[(aimAll_same _ s1).2.2.2.2.2,e1.2.2.1];omega)
 have hem:=fun W (h1:BSt E g W s2)=>emit_any h1 ⟨11,0,0,0,0⟩ (by rw[e2.2.2];omega)
 have hea:=fun W (h1:BSt E g W s3)=>h1.endAt (k:=s.blocks.length -1) (by rw[e3.2];exact hkl) (by rw[hbk s3 e3.2,e3.1];exact hhe)
 rw[hbk s3 e3.2,e3.1]at hea
 have hmem: ∀k,k<s.top.waits.length→s.top.waits.getD k 0<s.code.length:=fun k hk=>hw.2.2.2.1 _ (by simp[List.getD,List.getElem?_eq_getElem hk])
 have htk: ∀k,k<s.top.waits.length→aimAll (s.top.waits.take (k+1)) s1=aimM (aimAll (s.top.waits.take k) s1) (s.top.waits.getD k 0):=fun k hk=>by
  rw[List.take_add_one,aimAll,List.foldl_append];simp[List.getElem?_eq_getElem hk,aimAll]
 have hall:aimAll (s.top.waits.take s.top.waits.length) s1=s2:=by rw[List.take_length,hs2]
 have h0:aimAll (s.top.waits.take 0) s1=s1:=rfl
 have hst3:1≤s.top.start∧s.top.start≤s.code.length∨s.top.kind≠3:=(Classical.em (s.top.kind=3)).imp hw.2.2.2.2 id
 obtain⟨i0,hi0,hz0,hz1,hz2⟩:=info_parts info_u8
 have H:=hide h
 have HI:=hide hin
 have HF:=hide hfu
 have HKi:=hide hki
 have HA:=hide hai
 have HWa:=hide hwa
 have HAw:=hide haw
 have HEm:=hide hem
 have HEa:=hide hea
 have HM:=hide hM
 have HMem:=hide hmem
 have HTk:=hide htk
 have HAll:=hide hall
 have H00:=hide h0
 have HS1:=hide hs1
 have HS3:=hide hs3
 have HE3:=hide e3
 have hB:=h.env.base
 have hw1:=hw.1
 have hw2:=hw.2.1
 have hw3:=hw.2.2.1
 clear h hin hfu hki hai hwa haw hem hea hM hmem htk hall h0 hs1 hs2 hs3 e1 e2 e3 htop hbk z hw hfl
 generalize s.top.waits=ws at *
 generalize s.top.height=ht at *
 generalize s.top.start=sr at *
 generalize s.top.result=res at *
 generalize s.top.kind=kd at *
 subst hkd
 clear hst3
 go_enter Tryz.func257,Tryz.ntmps257
 go_wp2_with fail
 refine HI.out.mono ?_
 rintro e w1 ⟨rfl,k1⟩
 have HF1:=hide (HF.out w1 k1)
 have HK1:=hide k1
 clear k1
 go_wp2_with fail
 refine HF1.out.mono ?_
 rintro e w2 ⟨rfl,k2⟩
 have HK:=hide (HK1.out.trans k2)
 obtain⟨hkc,hsc,adr,capr,hrc⟩:=HKi.out w2 HK.out
 have H2:=hide (H.out.quiet HK.out)
 clear k2
 have h3:=H2.out
 rw[←HS1.out]at h3
 have H3:=hide h3
 clear h3
 obtain⟨wv,hwc,hwr,hwo,hwm,hwg,hwb⟩:=HWa.out w2 H3.out
 obtain⟨adw,capw,rfl,hcapw⟩:=hwr.shape
 have HWr:=hide hwr
 have HWo:=hide hwo
 have HWm:=hide hwm
 clear hwr hwo hwm hwg hwb
 go_wp2
 go_loopw [46] (fun kv wr=> ∃k:Nat,k≤ws.length∧kv= .int .i64 k∧BSt E g wr (aimAll (ws.take k) s1)∧Kp (CodeB E w2) w2 wr) (fun kv _=>ws.length - (intOf kv).toNat)
 case atStart=>exact⟨0,Nat.zero_le _,rfl,by rw[H00.out];exact H3.out,Kp.refl _ _⟩
 case round=>
  obtain⟨k,hk,rfl,hrst,hrk⟩:=hrel
  have HR:=hide hrst
  have HRK:=hide hrk
  clear hrst hrk
  by_cases hkw:k<ws.length
  ·obtain⟨a,o,cap',hv,_,hcell⟩:=RowAt.get (HWr.out.kp HRK.out (fun b hb hc=>HWo.out b hb hc)) (k:=k) (x:= .int .i64 (ws.getD k 0:Nat)) (by simp[List.getD,List.getElem?_eq_getElem hkw])
   simp only[Value.slice.injEq]at hv
   obtain⟨rfl,-,rfl⟩:=hv
   have hAk:=HAw.out wr k _ HR.out (HMem.out k hkw)
   have htk:=HTk.out k hkw
   generalize ws.getD k 0=q at *
   have HAk:=hide hAk
   have HTk1:=hide htk
   clear hAk htk
   go_wp2_with fail
   refine HAk.out.mono ?_
   rintro e w4 ⟨rfl,h4,k4⟩
   have H4:=hide h4
   have HK4:=hide (HRK.out.trans (k4.mono (fun b _ hb=>hb.back HRK.out H3.out HWm.out)))
   clear h4 k4
   go_wp2
   go_roundw
   case rel=>exact⟨k+1,by omega,by go_num,by rw[HTk1.out];exact H4.out,HK4.out⟩
   case measure=>simp[intOf];omega
  ·obtain rfl :k=ws.length:=by omega
   have h5:=HR.out
   rw[HAll.out]at h5
   have H5:=hide h5
   have HKw:=hide ((Kp.any HK.out:Kp (nro E.ro) w w2).trans (H3.out.nroCode HRK.out))
   have hk5:wr.cell? ⟨g,(s.blocks.length -1)*5,none⟩=some (.int .i64 0):=HRK.out.cell (p:=⟨g,(s.blocks.length -1)*5,none⟩) hkc (by obtain⟨wv,-,-,-,-,hg,-⟩:=HWa.out w2 H3.out;exact hg)
   clear h5 hwc hkc hsc hrc
   have HEm1:=hide (HEm.out wr H5.out)
   go_wp2_with fail
   refine HEm1.out.mono ?_
   rintro e w6 ⟨rfl,h6,k6⟩
   have h6':BSt E g w6 s3:=by rw[HS3.out];exact h6
   have H6:=hide h6'
   have HK6:=hide (HKw.out.trans k6)
   clear h6 h6' k6 hk5
   obtain⟨ad,cap,kc,rv,hbo,hcap,hnil,hhc,hrc6,hbr6,hgb,n1,n2,hown,hend⟩:=HEa.out w6 H6.out
   simp only[bodyObj,HE3.out.2]at hbo
   obtain⟨hc6,hf6⟩:=cells_of hbo
   obtain⟨adr6,capr6,rfl,-⟩:=hbr6.shape
   have hlb:E.bb<w6.heap.size:=lt_of_blk hbo
   have hB6:E.B≤w6.heap.size:=by have :=HK6.out.size;omega
   have HOw:=hide hown
   have HEn:=hide hend
   have HBr:=hide hbr6
   clear hbo hown hend hbr6
   go_wp2_with fail
   cases ad with
   |none=>
    have hcap0:=hnil rfl
    subst hcap0
    have hh0:ht=0:=by omega
    subst hh0
    clear hnil
    go_region_law ((refine step_append_at _ (by rfl) _ _ _ (by rfl) E.B 5 i0 _ 1 1 Tryz.underlying25 hi0 hz0 hz1 hz2 rfl (by omega) _ _ _ (by rfl) (HOw.out w6.drew ((Kp.refl no _).drew)) _ res.length _ (by rfl) (HBr.out.kp ((Kp.refl no w6).drew) (fun _ _ h=>h)) (bytes_oneCell _) (by simp only[maxLen];omega) (by omega) hB6 ?_;intro v1 w7 hown1 hgrow hat;obtain⟨ad1,cap1,rfl⟩:=own_shape hown1;have hmc1:=(hgrow.cell_far ⟨E.bb,4,none⟩ (by simpa using hlb) n1).trans (hc6 4);have hmf1:=(hgrow.frozen_far ⟨E.bb,4,none⟩ (by simpa using hlb) n1).trans (hf6 4)))
    all_goals
     obtain⟨h8,k8⟩:=HEn.out _ _ _ _ _ ((Kp.refl no _).drew) rfl rfl hown1 hgrow hat
     simp only[Nat.zero_add]at h8 k8
     generalize World.setCell w7 ⟨E.bb,4,none⟩ (.slice ad1 res.length cap1)=w8 at *
     obtain⟨sv8,kc8,hbo8,⟨ad8,cap8,hsv8⟩,hkc8,hpop⟩:=h8.pop
     subst hsv8
     simp only[HE3.out.2]at hkc8 hpop
     simp only[bodyObj,HE3.out.2]at hbo8
     obtain⟨hc8,hf8⟩:=cells_of hbo8
     have H8:=hide h8
     have HK8:=hide (HK6.out.trans k8)
     have HPo:=hide hpop
     clear h8 k8 hbo8 hpop hown1 hgrow hat hmc1 hmf1
     go_wp2_with fail
     go_region
     all_goals
      go_wp2
      go_ret
      rw[HM.out]
      obtain⟨h9,k9⟩:=HPo.out (s.blocks.length -1) w8 (by omega) (Kp.refl no w8)
      obtain⟨h10,k10⟩:=closed_end h9 false
      exact⟨⟨rfl,g,h10.quiet ((Kp.refl no _).drew)⟩,((HK8.out.trans (H8.out.nroBb k9)).trans (h9.nroBb k10)).drew⟩
   |some a=>
    clear hnil
    obtain⟨a,oa,fa⟩:=a
    have hhc2:ht≤cap:=by omega
    go_region_law ((refine step_append_at _ (by rfl) _ _ _ (by rfl) E.B 5 i0 _ 1 1 Tryz.underlying25 hi0 hz0 hz1 hz2 rfl (by omega) _ _ _ (by rfl) (HOw.out w6.drew ((Kp.refl no _).drew)) _ res.length _ (by rfl) (HBr.out.kp ((Kp.refl no w6).drew) (fun _ _ h=>h)) (bytes_oneCell _) (by simp only[maxLen];omega) (by omega) hB6 ?_;intro v1 w7 hown1 hgrow hat;obtain⟨ad1,cap1,rfl⟩:=own_shape hown1;have hmc1:=(hgrow.cell_far ⟨E.bb,4,none⟩ (by simpa using hlb) n1).trans (hc6 4);have hmf1:=(hgrow.frozen_far ⟨E.bb,4,none⟩ (by simpa using hlb) n1).trans (hf6 4)))
    all_goals
     obtain⟨h8,k8⟩:=HEn.out _ _ _ _ _ ((Kp.refl no _).drew) rfl rfl hown1 hgrow hat
     generalize World.setCell w7 ⟨E.bb,4,none⟩ (.slice ad1 (ht+res.length) cap1)=w8 at *
     obtain⟨sv8,kc8,hbo8,⟨ad8,cap8,hsv8⟩,hkc8,hpop⟩:=h8.pop
     subst hsv8
     simp only[HE3.out.2]at hkc8 hpop
     simp only[bodyObj,HE3.out.2]at hbo8
     obtain⟨hc8,hf8⟩:=cells_of hbo8
     have H8:=hide h8
     have HK8:=hide (HK6.out.trans k8)
     have HPo:=hide hpop
     clear h8 k8 hbo8 hpop hown1 hgrow hat hmc1 hmf1
     go_wp2_with fail
     go_region
     all_goals
      go_wp2
      go_ret
      rw[HM.out]
      obtain⟨h9,k9⟩:=HPo.out (s.blocks.length -1) w8 (by omega) (Kp.refl no w8)
      obtain⟨h10,k10⟩:=closed_end h9 false
      exact⟨⟨rfl,g,h10.quiet ((Kp.refl no _).drew)⟩,((HK8.out.trans (H8.out.nroBb k9)).trans (h9.nroBb k10)).drew⟩
end

end Go.Proofs.YtdeplgkhmebalaaGreatDoor

set_option linter.unusedSimpArgs false
set_option linter.unusedVariables false
set_option maxHeartbeats 3000000
set_option maxRecDepth 100000
namespace Go.Proofs.YtdeplgkhmebalaaGreatDoor
open Go.RowKit

section
variable{E:Env} {g N:Nat} {w:World} {s:Bd}

theorem end_no (h:BSt E g w s) (z:Sz N s) (hN:N≤500000) (hne:s.blocks≠[]) (hw:fullM s (s.blocks.length -1)=false∨(s.top.kind=3∧s.top.result≠[])):Calls Tryz.prog 257 #[ptrTo E.bb] w fun r w'=>Done E w w' (wrongM s) r∧Kp (nro E.ro) w w':=by
 have hl:0<s.blocks.length:=List.length_pos_iff.2 hne
 have hkl:s.blocks.length -1<s.blocks.length:=by omega
 have hst:=z.st
 have hbl:=z.bl
 have hin:=inner_any' h hne (by omega)
 have hfu:=fun W (kW:Kp no w W)=>full_any (h.quiet kW) (k:=s.blocks.length -1) hkl (z.height hkl) (by omega)
 have hki: ∀W,Kp no w W→W.cell? ⟨g,(s.blocks.length -1)*5,none⟩=some (.int .i64 s.top.kind)∧ ∃adr capr,W.cell? ⟨g,(s.blocks.length -1)*5+1,none⟩=some (.slice adr s.top.result.length capr):=by
  intro W kW
  obtain⟨rv,wv,hcl,hbr,-⟩:=h.blkAt hkl
  obtain⟨h1,h2,-,h4,-,-⟩:=hcl W kW
  obtain⟨adr,capr,hrv,-⟩:=hbr.shape
  rw[hrv]at h2
  exact⟨h1,adr,capr,h2⟩
 have hrl:=(z.wt _ hkl).2.2.1
 change s.top.result.length≤1 at hrl
 have H:=hide h
 have HI:=hide hin
 have HF:=hide hfu
 have HKi:=hide hki
 clear h hin hfu hki z
 generalize s.top.kind=kd at *
 generalize s.top.result=res at *
 generalize fullM s (s.blocks.length -1)=fl at *
 cases fl with
 |false=>
  clear hw
  go_enter Tryz.func257,Tryz.ntmps257
  go_wp2_with fail
  refine HI.out.mono ?_
  rintro e w1 ⟨rfl,k1⟩
  have HF1:=hide (HF.out w1 k1)
  have HK1:=hide k1
  clear k1
  go_wp2_with fail
  refine HF1.out.mono ?_
  rintro e w2 ⟨rfl,k2⟩
  have HK:=hide (HK1.out.trans k2)
  have HW:=hide (wrong_any (H.out.quiet HK.out))
  clear k2
  go_wp2_with fail
  refine HW.out.mono ?_
  rintro e w8 ⟨⟨fv,rfl,fb,rfl,hfb,hfo⟩,k8⟩
  have HFo:=hide hfo
  clear hfo
  go_wp2
  go_ret
  exact⟨⟨ptrTo fb,rfl,fb,rfl,by have :=HK.out.size;omega,HFo.out⟩,(HK.out.trans k8).any⟩
 |true=>
  obtain⟨h3,hres⟩:=hw.resolve_left (fun e=>by cases e)
  have hrp:0<res.length:=List.length_pos_iff.2 hres
  subst h3
  clear hw hres
  go_enter Tryz.func257,Tryz.ntmps257
  go_wp2_with fail
  refine HI.out.mono ?_
  rintro e w1 ⟨rfl,k1⟩
  have HF1:=hide (HF.out w1 k1)
  have HK1:=hide k1
  clear k1
  go_wp2_with fail
  refine HF1.out.mono ?_
  rintro e w2 ⟨rfl,k2⟩
  have HK:=hide (HK1.out.trans k2)
  obtain⟨hkc,adr,capr,hrc⟩:=HKi.out w2 HK.out
  have HW:=hide (wrong_any (H.out.quiet HK.out))
  clear k2
  go_wp2_with fail
  refine HW.out.mono ?_
  rintro e w8 ⟨⟨fv,rfl,fb,rfl,hfb,hfo⟩,k8⟩
  have HFo:=hide hfo
  clear hfo
  go_wp2
  go_ret
  exact⟨⟨ptrTo fb,rfl,fb,rfl,by have :=HK.out.size;omega,HFo.out⟩,(HK.out.trans k8).any⟩
end

end Go.Proofs.YtdeplgkhmebalaaGreatDoor

set_option linter.unusedSimpArgs false
set_option linter.unusedVariables false
namespace Go.Proofs.YtdeplgkhmebalaaGreatDoor
open Go.RowKit

theorem u_err (E:Rf.PE) (most:Int) (e:Int×Int):(Rf.uM E most (.error e)).2= .error e:=by rw[Rf.u_sticky rfl]
theorem s_err (E:Rf.PE) (size:Nat) (e:Int×Int):(Rf.sM E size (.error e)).2= .error e:=by
 unfold Rf.sM
 simp only[Rf.number_sticky (show Rf.badM (Except.error e)=true from rfl)]
 rw[if_pos (show Rf.badM (Except.error e)=true from rfl)]
theorem need_err (E:Rf.PE) (a b c:UInt8) (e:Int×Int):(Rf.needM E a b c (.error e)).2= .error e:=by
 unfold Rf.needM
 show(if _ then Rf.failM 2 _ (Except.error e)else Except.error e)=_
 split <;>rfl

def Rf.listR (E:Rf.PE) (most:Int) (σ:Rf.PS):List UInt8×Rf.PS:=Rf.typesM E (Rf.uM E most σ).1 (Rf.uM E most σ).2
def Rf.typeR (E:Rf.PE) (σ:Rf.PS):(List UInt8×List UInt8)×Rf.PS:=(((Rf.listR E 8 σ).1,(Rf.listR E 1 (Rf.listR E 8 σ).2).1),(Rf.listR E 1 (Rf.listR E 8 σ).2).2)
def Rf.loopR {α:Type} (one:Rf.PS→α×Rf.PS):Nat→List α→Rf.PS→List α×Rf.PS
 |0,l,σ=>(l,σ)
 |n+1,l,σ=>if Rf.badM σ then (l,σ)else loopR one n (l++[(one σ).1]) (one σ).2
def Rf.funR (E:Rf.PE) (ts:List (List UInt8×List UInt8)) (σ:Rf.PS):(List UInt8×List UInt8)×Rf.PS:=(ts.getD (Rf.uM E ((ts.length:Int) -1) σ).1 ([],[]),(Rf.uM E ((ts.length:Int) -1) σ).2)
def Rf.valueR (E:Rf.PE) (t:UInt8) (σ:Rf.PS):Nat×Rf.PS:=if t=127 then Rf.sM E 32 σ else Rf.sM E 64 σ
def Rf.globR (E:Rf.PE) (σ:Rf.PS):(UInt8×UInt8×Nat)×Rf.PS:=
 let t:=Rf.needM E 127 126 126 σ
 let f:=Rf.needM E 0 1 1 t.2
 let v:=Rf.valueR E t.1 f.2
 ((t.1,f.1,v.1),v.2)
def globB (D:List UInt8) (i:Nat):Rd (UInt8×UInt8×Nat):=
 match oneOfM D [127,126] i with
 | .error e=> .error e
 | .ok (t,j)=>match oneOfM D [0,1] j with
  | .error e=> .error e
  | .ok (f,k)=>match valueAtM D t k with
   | .error e=> .error e
   | .ok (v,m)=> .ok ((t,f,v),m)
theorem glob_map (D:List UInt8) (i:Nat):globM D i=match globB D i with | .error e=> .error e| .ok (g,j)=> .ok (((g.1,g.2.1==1),g.2.2),j):=by
 unfold globM globB
 cases oneOfM D [127,126] i with
 |error e=>rfl
 |ok x=>
  obtain⟨t,j⟩:=x
  simp only
  cases oneOfM D [0,1] j with
  |error e=>rfl
  |ok y=>
   obtain⟨f,k⟩:=y
   simp only
   cases valueAtM D t k<;>rfl
theorem many_map {α β:Type} {m:Nat→Rd β} {m':Nat→Rd α} {g:α→β} (h: ∀i,m i=match m' i with | .error e=> .error e| .ok (x,j)=> .ok (g x,j)): ∀n i,manyM m n i=match manyM m' n i with | .error e=> .error e| .ok (l,j)=> .ok (l.map g,j):=by
 intro n
 induction n with
 |zero=>intro i;rfl
 |succ n ih=>
  intro i
  rw[manyM,manyM,h]
  cases m' i with
  |error e=>rfl
  |ok x=>
   obtain⟨x,j⟩:=x
   simp only
   rw[ih]
   cases manyM m' n j<;>rfl
theorem loop_bad {α:Type} (one:Rf.PS→α×Rf.PS) (n:Nat) (l:List α) (e:Int×Int):(Rf.loopR one n l (.error e)).2= .error e:=by
 cases n with
 |zero=>rfl
 |succ n=>rw[Rf.loopR,if_pos (show Rf.badM (Except.error e)=true from rfl)]
theorem loop_like {α:Type} {one:Rf.PS→α×Rf.PS} {m:Nat→Rd α} {N:Nat} (h1: ∀i,i≤N→Like (one (.ok i)) (m i)) (h2: ∀i,i≤N→Rb N (m i)): ∀(n i:Nat) (l:List α),i≤N→Like (Rf.loopR one n l (.ok i)) (match manyM m n i with | .ok (x,j)=> .ok (l++x,j)| .error e=> .error e):=by
 intro n
 induction n with
 |zero=>
  intro i l _
  show(l,Except.ok i)=(l++[],Except.ok i)
  rw[List.append_nil]
 |succ n ih=>
  intro i l hi
  have hn:=h1 i hi
  have hr:=h2 i hi
  rw[Rf.loopR,if_neg (by simp[Rf.badM]),manyM]
  cases ho:m i with
  |error e=>
   rw[hn.err ho]
   exact loop_bad _ _ _ _
  |ok x=>
   obtain⟨x,j⟩:=x
   rw[hn.ok ho]
   have hj:j≤N:=hr.ok ho
   have hk:=ih j (l++[x]) hj
   simp only
   cases hm:manyM m n j with
   |error e=>rw[hm]at hk;exact hk
   |ok y=>
    obtain⟨z,q⟩:=y
    rw[hm]at hk
    show _=(l++(x::z),Except.ok q)
    have hk':Rf.loopR one n (l++[x]) (Except.ok j)=(l++[x]++z,Except.ok q):=hk
    rw[hk',List.append_assoc]
    rfl
section
variable{E:Rf.PE} {i:Nat} (he:E.en≤E.data.length)
include he
theorem rf_list (n:Nat) (hi:i≤E.en):Like (Rf.listR E n (.ok i)) (listM (E.data.take E.en) n i):=by
 have hu:=rf_u he (n:Int) hi
 have hr:=below_rb (D:=E.data.take E.en) (i:=i) ((n:Int)+1) (by rw[rf_len he];exact hi)
 unfold Rf.listR listM
 cases hb:belowM (E.data.take E.en) ((n:Int)+1) i with
 |error e=>
  rw[hu.err hb]
  exact types_bad _ _ _ _
 |ok x=>
  obtain⟨k,j⟩:=x
  rw[hu.ok hb]
  have hj:=hr.ok hb
  rw[rf_len he]at hj
  exact rf_types he k hj
theorem list_err (most:Int) (e:Int×Int):(Rf.listR E most (.error e)).2= .error e:=by
 have :=he
 unfold Rf.listR
 rw[u_err]
 exact types_bad _ _ _ _
theorem rf_type (hi:i≤E.en):Like (Rf.typeR E (.ok i)) (typeM (E.data.take E.en) i):=by
 have h1:=rf_list he 8 hi
 have hr:=list_rb (D:=E.data.take E.en) (i:=i) 8 (by rw[rf_len he];exact hi)
 unfold Rf.typeR typeM
 cases hb:listM (E.data.take E.en) 8 i with
 |error e=>
  have :=h1.err hb
  show(Rf.listR E 1 (Rf.listR E 8 (Except.ok i)).2).2=Except.error e
  rw[show(Rf.listR E 8 (Except.ok i)).2=Except.error e from this]
  exact list_err he _ _
 |ok x=>
  obtain⟨p,j⟩:=x
  have h1':Rf.listR E 8 (Except.ok i)=(p,Except.ok j):=h1.ok hb
  rw[h1']
  have hj:=hr.ok hb
  rw[rf_len he]at hj
  have h2:=rf_list he 1 hj
  simp only
  cases hb2:listM (E.data.take E.en) 1 j with
  |error e=>exact h2.err hb2
  |ok y=>
   obtain⟨r,q⟩:=y
   have h2':Rf.listR E 1 (Except.ok j)=(r,Except.ok q):=h2.ok hb2
   rw[h2']
   rfl
theorem rf_fun (ts:List Ty) (hi:i≤E.en):Like (Rf.funR E ts (.ok i)) (match belowM (E.data.take E.en) ts.length i with | .error e=> .error e| .ok (k,j)=> .ok (ts.getD k ([],[]),j)):=by
 have hu:=rf_u he ((ts.length:Int) -1) hi
 rw[show((ts.length:Int) -1+1)=ts.length by omega]at hu
 unfold Rf.funR
 cases hb:belowM (E.data.take E.en) ts.length i with
 |error e=>exact hu.err hb
 |ok x=>
  obtain⟨k,j⟩:=x
  rw[hu.ok hb]
  rfl
theorem rf_value (t:UInt8) (hi:i≤E.en):Like (Rf.valueR E t (.ok i)) (valueAtM (E.data.take E.en) t i):=by
 unfold Rf.valueR valueAtM
 by_cases h:t=127
 ·rw[if_pos h,if_pos h];exact rf_s32 he hi
 ·rw[if_neg h,if_neg h];exact rf_s64 he hi
theorem rf_glob (hi:i≤E.en):Like (Rf.globR E (.ok i)) (globB (E.data.take E.en) i):=by
 have h1:=rf_need he (a:=127) (b:=126) (c:=126) (al:=[127,126]) (by intro x;simp) hi
 have hr:=oneOf_rb (D:=E.data.take E.en) (i:=i) [127,126] (by rw[rf_len he];exact hi)
 have hve: ∀(t:UInt8) (e:Int×Int),(Rf.valueR E t (.error e)).2= .error e:=by
  intro t e
  unfold Rf.valueR
  split
  ·exact s_err _ _ _
  ·exact s_err _ _ _
 unfold Rf.globR globB
 simp only
 cases hb:oneOfM (E.data.take E.en) [127,126] i with
 |error e=>
  have h1':=h1.err hb
  show(Rf.valueR E _ (Rf.needM E 0 1 1 (Rf.needM E 127 126 126 (Except.ok i)).2).2).2=Except.error e
  rw[h1',need_err]
  exact hve _ _
 |ok x=>
  obtain⟨t,j⟩:=x
  rw[h1.ok hb]
  have hj:=hr.ok hb
  rw[rf_len he]at hj
  have h2:=rf_need he (a:=0) (b:=1) (c:=1) (al:=[0,1]) (by intro x;simp) hj
  have hr2:=oneOf_rb (D:=E.data.take E.en) (i:=j) [0,1] (by rw[rf_len he];exact hj)
  simp only
  cases hb2:oneOfM (E.data.take E.en) [0,1] j with
  |error e=>
   have h2':=h2.err hb2
   show(Rf.valueR E _ (Rf.needM E 0 1 1 (Except.ok j)).2).2=Except.error e
   rw[h2']
   exact hve _ _
  |ok y=>
   obtain⟨f,k⟩:=y
   rw[h2.ok hb2]
   have hk:=hr2.ok hb2
   rw[rf_len he]at hk
   have h3:=rf_value he t hk
   simp only
   cases hb3:valueAtM (E.data.take E.en) t k with
   |error e=>exact h3.err hb3
   |ok z=>
    obtain⟨v,m⟩:=z
    rw[h3.ok hb3]
    rfl
end
end Go.Proofs.YtdeplgkhmebalaaGreatDoor
