/- The document's reader: 'body' in all cases, 'Read'. -/
import Derived.Test.YtdeplgkhmebalaaGreatDoorP32
import Derived.Test.YtdeplgkhmebalaaGreatDoorP31

set_option linter.unusedSimpArgs false
set_option linter.unusedVariables false
set_option maxHeartbeats 4000000
set_option maxRecDepth 100000
namespace Go.Proofs.YtdeplgkhmebalaaGreatDoor.Rf
open Go.RowKit

theorem Al.list {E' E:PE} (h:Al E' E):listR E'=listR E:=by
 funext m σ
 unfold listR
 rw[h.u,h.types]
theorem Al.times {α:Type} {E' E:PE} (h:Al E' E) (m:Int) (one:PS→α×PS) (σ:PS):timesR E' m one σ=timesR E m one σ:=by
 unfold timesR
 rw[h.u]
theorem Al.head {E' E:PE} (h:Al E' E):headR E'=headR E:=by
 funext σ
 have h1:typeR E'=typeR E:=by funext σ;unfold typeR;rw[h.list]
 have h2:funR E'=funR E:=by funext ts σ;unfold funR;rw[h.u]
 have h3:globR E'=globR E:=by funext σ;unfold globR valueR;rw[h.need,h.s]
 unfold headR magicR
 rw[h1,h2,h3,h.need,h.u]
 simp only[h.times]
theorem Al.bodies {E' E:PE} (h:Al E' E) (funcs:List (List UInt8×List UInt8)) (globs:List (UInt8×UInt8×Nat)) (l:List (List UInt8×List UInt8)): ∀σ,bodiesR E' funcs globs l σ=bodiesR E funcs globs l σ:=by
 induction l with
 |nil=>intro σ;rfl
 |cons t rest ih=>
  intro σ
  cases σ with
  |error e=>rfl
  |ok i=>rw[bodiesR,bodiesR,h.body];exact ih _
theorem Al.read {E' E:PE} (h:Al E' E):readR E'=readR E:=by
 unfold readR
 rw[h.d,h.head]
 simp only[h.bodies]

theorem body_any {w:World} {pb mb base:Nat} {E:PE} {i:Nat} {tv fv gv:Value} {pages:Int} {funcs:List (List UInt8×List UInt8)} {globs:List (UInt8×UInt8×Nat)} (h:PSt w pb E (.ok i)) (hen:E.en=E.data.length) (hd:E.d=0) (hM:ModAt w pb mb base tv fv gv pages funcs globs) (hm:E.m=ptr mb) (f:Nat) {typ:List UInt8×List UInt8} (hf:funcs[f]? =some typ) (hbp:pb<base):
  Calls Tryz.prog 119 #[ptr pb,.int .i64 f] w fun r w'=>r= .returned (.tuple #[])∧ ∃loc,PSt w' pb {E with loc:=loc,d:=0} (bodyR E funcs globs typ i)∧ModAt w' pb mb base tv fv gv pages funcs globs∧Kp (fun k=>k=pb∨fv.ownBlock=some k) w w':=by
 have aux:(badM (uM E 2000 (.ok i)).2=true∨ ∃j,(uM E 2000 (.ok i)).2= .ok j∧E.data.length<j+(uM E 2000 (.ok i)).1)→Calls Tryz.prog 119 #[ptr pb,.int .i64 f] w fun r w'=>r= .returned (.tuple #[])∧ ∃loc,PSt w' pb {E with loc:=loc,d:=0} (bodyR E funcs globs typ i)∧ModAt w' pb mb base tv fv gv pages funcs globs∧Kp (fun k=>k=pb∨fv.ownBlock=some k) w w':=by
  intro hb
  refine(body_size h hen hb f funcs globs typ).mono ?_
  rintro r w' ⟨h1,h2,-,k⟩
  refine⟨h1,E.loc,?_,hM.kp k,k.mono (fun b _ h=> .inl h)⟩
  have hE:({E with loc:=E.loc,d:=0}:PE)=E:=by rw[←hd]
  rw[hE]
  exact h2
 cases hu:uM E 2000 (.ok i)with
 |mk n σ1=>
  cases σ1 with
  |error e=>exact aux (.inl (by rw[hu];rfl))
  |ok j=>
   by_cases hle:j+n≤E.data.length
   ·exact body_main h hen hM hm hu hle f hf hbp
   ·exact aux (.inr ⟨j,by rw[hu],by rw[hu];show E.data.length<j+n;omega⟩)

def lastR (x:List (List UInt8×List UInt8)×List (List UInt8×List UInt8)×List (UInt8×UInt8×Nat)×Nat) (n:Nat):PS→Except (Int×Int) (List (List UInt8×List UInt8)×List (List UInt8×List UInt8)×List (UInt8×UInt8×Nat)×Nat)
 | .error e=> .error e
 | .ok i=>if i<n then .error (2,(i:Int))else .ok x
abbrev rdE (data:List UInt8) (bv:Value):PE:=⟨.pointer none,data,bv,data.length,.slice none 0 0,0⟩

theorem read_any {w:World} {bv:Value} {data:List UInt8} (hbv:BytesOk w bv data) (hlow: ∀b,bvB bv data=some b→b<w.heap.size):
  Calls Tryz.prog 87 #[bv] w fun r w'=>Kp no w w'∧((∃e a,readR (rdE data bv)= .error (e,a)∧e≠0∧r= .returned (.tuple #[.pointer none,.int .i64 e,.int .i64 a]))∨
   ∃ts fs gs pages pb mb base tv fv gv,readR (rdE data bv)= .ok (ts,fs,gs,pages)∧r= .returned (.tuple #[ptr mb,.int .i64 0,.int .i64 0])∧ModAt w' pb mb base tv fv gv pages fs gs∧w.heap.size≤mb∧w.heap.size≤base):=by
 obtain⟨ad,cap,rfl,hcap⟩:=hbv.shape
 have HBV:=hide hbv
 have HLow:=hide hlow
 clear hbv hlow
 by_cases hlong:2000<data.length
 ·have hR:readR (rdE data (.slice ad data.length cap))= .error (1,0):=by
   unfold readR
   rw[if_pos (show 2000<(rdE data (.slice ad data.length cap)).data.length from hlong)]
  have HR:=hide hR
  clear hR
  go_enter Tryz.func87,Tryz.ntmps87
  go_wp2_with fail
  refine bodyPost_ret (v:= .tuple #[.pointer none,.int .i64 1,.int .i64 0]) (by simp[results,Tryz.results87,go_sem]) rfl ?_
  exact⟨Kp.refl _ _,.inl ⟨1,0,HR.out,by decide,rfl⟩⟩
 ·go_enter Tryz.func87,Tryz.ntmps87
  go_wp2_with fail
  obtain⟨wA,hwA⟩: ∃wA,wA=((w.alloc (.cells #[.slice none 0 0,.slice none 0 0,.slice none 0 0,.int .i64 0] 149)).alloc (.cells #[ptr w.heap.size,.slice ad data.length cap,.int .i64 0,.int .i64 data.length,.int .i64 0,.int .i64 0,.slice none 0 0,.int .i64 0] 236)):=⟨_,rfl⟩
  obtain⟨E,hE⟩: ∃E:PE,E={rdE data (.slice ad data.length cap)with m:=ptr w.heap.size}:=⟨_,rfl⟩
  have hm:E.m=ptr w.heap.size:=by rw[hE]
  have hEd:E.data=data:=by rw[hE]
  have hEb:E.b= .slice ad data.length cap:=by rw[hE]
  have hEn:E.en=data.length:=by rw[hE]
  have hE0:E.d=0:=by rw[hE]
  have hAl:Al E (rdE data (.slice ad data.length cap)):=⟨hEd,hEn⟩
  have kA:Kp no w wA:=by rw[hwA];exact((Kp.refl _ _).alloc _).alloc _
  have hsA:wA.heap.size=w.heap.size+2:=by rw[hwA];simp
  have hbP:wA.heap[w.heap.size+1]? =some (E.obj (0:Nat) 0 0):=by
   rw[hwA,hE]
   have :=heap_alloc_new (w.alloc (.cells #[.slice none 0 0,.slice none 0 0,.slice none 0 0,.int .i64 0] 149)) (.cells #[ptr w.heap.size,.slice ad data.length cap,.int .i64 0,.int .i64 data.length,.int .i64 0,.int .i64 0,.slice none 0 0,.int .i64 0] 236)
   rw[show(w.alloc (.cells #[.slice none 0 0,.slice none 0 0,.slice none 0 0,.int .i64 0] 149)).heap.size=w.heap.size+1 by simp]at this
   exact this
  have hbM:wA.heap[w.heap.size]? =some (.cells #[.slice none 0 0,.slice none 0 0,.slice none 0 0,.int .i64 0] 149):=by
   rw[hwA]
   exact heap_alloc_old (heap_alloc_new _ _)
  have hH:HdSt wA (w.heap.size+1) w.heap.size (w.heap.size+2) E (.slice none 0 0) (.slice none 0 0) (.slice none 0 0) 0 [] [] [] (.ok 0):=by
   refine⟨⟨fun i hi=> ?_,fun e a he=>(by cases he),?_,fun b hb=> ?_,by rw[hEd];omega,by rw[hEn,hEd];exact Nat.le_refl _⟩,by omega,by omega,by omega,fun e=> ?_,by omega,hbM,⟨[],World.ownsRow_nil _ _ _ _,(fun k x h=>by simp at h)⟩,⟨[],World.ownsRow_nil _ _ _ _,(fun k x h=>by simp at h)⟩,⟨[],World.ownsRow_nil _ _ _ _,(fun k x h=>by simp at h)⟩,(fun b h=>by cases h),(fun b h=>by cases h),by simp,(fun x h=>by simp at h),by simp,(fun x h=>by simp at h),by simp⟩
   ·cases hi
    exact⟨Nat.zero_le _,hbP⟩
   ·rw[hEb,hEd];exact HBV.out.kp kA (fun _ _ h=>h)
   ·rw[hEb,hEd]at hb;have :=HLow.out b hb;omega
   ·rw[hEb,hEd]at e;have :=HLow.out _ e;omega
  rw[←hwA]
  have HHd:=hide hH
  have HAl:=hide hAl
  clear hwA hE hbP hbM hH hAl
  refine(head_any HHd.out hsA.symm hm).mono ?_
  rintro r w1 ⟨rfl,tv,fv,gv,pages,ts,fs,gs,h1,hg1,k1⟩
  obtain⟨hd,hhd⟩: ∃hd,hd=headR E (.ok 0):=⟨_,rfl⟩
  rw[←hhd]at h1 hg1
  have Hhd:=hide hhd
  have HG1:=hide hg1
  have H1:=hide h1
  have K1:=hide (kA.comp k1 (fun _ _ h=>h) (fun k hk h=>by omega):Kp no w w1)
  obtain⟨pb,hpb⟩: ∃pb,pb=w.heap.size+1:=⟨_,rfl⟩
  obtain⟨mb,hmb⟩: ∃mb,mb=w.heap.size:=⟨_,rfl⟩
  obtain⟨base,hbase⟩: ∃base,base=w.heap.size+2:=⟨_,rfl⟩
  rw[←hpb,←hbase,←hmb]at H1
  rw[←hmb]at hm
  rw[←hpb]
  have HPB:=hide hpb
  have HMB:=hide hmb
  have HBS:=hide hbase
  obtain⟨σF,hσF⟩: ∃σF,σF=bodiesR E fs gs fs hd.2:=⟨_,rfl⟩
  have HσF:=hide hσF
  have HM1:=hide H1.out.mod
  obtain⟨cF,hownF,-⟩:=H1.out.fown
  obtain⟨adF,capF,rfl⟩:=own_shape hownF
  have hfl:=H1.out.fl
  have hpbl:=H1.out.pbl
  clear h1 hg1 k1 hhd hpb hmb hbase hσF kA hsA hownF
  go_upto_block 0 with fail
  go_cut [6] (fun _ wx=> ∃loc,PSt wx pb {E with loc:=loc} σF∧ModAt wx pb mb base tv (.slice adF fs.length capF) gv pages fs gs∧Kp no w wx)
  case first =>
   go_wp2_with fail
   go_loopw [6] (fun i wr=> ∃(k:Nat) (σ':PS) (loc:Value),k≤fs.length∧i= .int .i64 k∧PSt wr pb {E with loc:=loc} σ'∧ModAt wr pb mb base tv (.slice adF fs.length capF) gv pages fs gs∧Kp no w wr∧bodiesR E fs gs (fs.drop k) σ'=σF) (fun i _=>fs.length - (intOf i).toNat)
   case atStart=>exact⟨0,hd.2,E.loc,by omega,rfl,H1.out.st,HM1.out,K1.out,HσF.out.symm⟩
   case round=>
    obtain⟨k,σ',loc,hk,rfl,hst,hmod,hkp,hM⟩:=hrel
    have HS:=hide hst
    have HMd:=hide hmod
    have HK:=hide hkp
    have HM:=hide hM
    obtain⟨i1,e1,p1,hi1,hb1,-,-⟩:=hst.obj
    obtain⟨hc1,-⟩:=cells_of hb1
    obtain⟨hcm1,-⟩:=cells_of hmod.blk
    rw[hm]at hc1
    clear hst hmod hkp hM hb1
    by_cases hlt:k<fs.length
    ·by_cases hbd:badM σ'=true
     ·go_wp2_with fail
      refine(bad_any HS.out).mono ?_
      rintro e w2 ⟨rfl,rfl⟩
      go_wp2_with fail
      go_meet
      have hM:=HM.out
      have hq:bodiesR E fs gs (fs.drop k) σ'=σ':=by
       cases σ' with
       |ok q=>cases hbd
       |error e=>exact bodies_bad _ _ _ _ _
      rw[hq]at hM
      exact⟨loc,by rw[←hM];exact HS.out,HMd.out,HK.out⟩
     ·simp only[Bool.not_eq_true]at hbd
      obtain⟨typ,hx⟩: ∃x,fs[k]? =some x:=⟨_,List.getElem?_eq_getElem hlt⟩
      have Hx:=hide hx
      have hdr:fs.drop k=typ::fs.drop (k+1):=by
       obtain⟨h1,h2⟩:=List.getElem?_eq_some_iff.1 hx
       rw[List.drop_eq_getElem_cons h1,h2]
      have Hdr:=hide hdr
      obtain⟨q,rfl⟩: ∃q,σ'= .ok q:=by
       cases σ' with
       |ok q=>exact⟨q,rfl⟩
       |error e=>cases hbd
      clear hx hdr
      go_wp2_with fail
      refine(bad_any HS.out).mono ?_
      rintro e w2 ⟨rfl,rfl⟩
      go_wp2_with fail
      refine(body_any HS.out (by show E.en=E.data.length;rw[hEn,hEd]) hE0 HMd.out hm k Hx.out hpbl).mono ?_
      rintro e w3 ⟨rfl,loc',h3,hM3,k3⟩
      rw[Al.body (E':={E with loc:=loc}) (E:=E) ⟨rfl,rfl⟩]at h3
      have h3':PSt w3 pb {E with loc:=loc'} (bodyR E fs gs typ q):=by
       have hE:({E with loc:=loc',d:=0}:PE)={E with loc:=loc'}:=by rw[←hE0]
       rw[←hE]
       exact h3
      have H3:=hide h3'
      have HM3:=hide hM3
      have K3:=hide (HK.out.comp k3 (S:=no) (fun _ _ h=>h) (fun b hb h=>by
       rcases h with h|h
       ·have :=HPB.out;omega
       ·obtain⟨cc,oo,-⟩:=HMd.out.fown
        have :=own_new oo b h
        have :=HBS.out
        omega))
      clear h3 h3' hM3 k3 hc1 hcm1
      go_wp2_with fail
      go_roundw
      case rel=>
       refine⟨k+1,_,loc',by omega,by go_num,H3.out,HM3.out,K3.out,?_⟩
       have hM:=HM.out
       rw[Hdr.out,bodiesR]at hM
       exact hM
      case measure=>simp[intOf];omega
    ·go_wp2_with fail
     go_meet
     have hM:=HM.out
     rw[List.drop_eq_nil_of_le (by omega),bodiesR]at hM
     exact⟨loc,by rw[←hM];exact HS.out,HMd.out,HK.out⟩
  case rest=>
   rename World=>w2
   obtain⟨loc,h2,hM2,k2⟩:=hcut
   have H2:=hide h2
   have HM2:=hide hM2
   have K2:=hide k2
   have hread:readR (rdE data (.slice ad data.length cap))=lastR hd.1 data.length σF:=by
    have hbod:bodiesR E hd.1.2.1 hd.1.2.2.1 hd.1.2.1 hd.2=σF:=by
     rw[HσF.out]
     cases hq:hd.2 with
     |error e=>rw[bodies_bad,bodies_bad]
     |ok j=>
      obtain⟨-,q2,q3,-⟩:=HG1.out (by rw[hq];rfl)
      rw[q2,q3]
    rw[←HAl.out.read]
    unfold readR
    rw[if_neg (by rw[hEd];exact hlong),←Hhd.out]
    simp only
    rw[hbod,hEd]
    unfold lastR
    cases σF<;>rfl
   have HRd:=hide hread
   clear h2 hM2 k2 hread
   cases hσ:σF with
   |error ea=>
    obtain⟨e,a⟩:=ea
    have hR:=HRd.out
    have hS:=H2.out
    rw[hσ]at hR hS
    have HR:=hide hR
    obtain⟨he,i2,hi2,hb2⟩:=hS.bad e a rfl
    obtain⟨hc2,-⟩:=cells_of hb2
    rw[hm]at hc2
    have HS:=hide hS
    have hbd:badM (Except.error (e,a):PS)=true:=rfl
    clear hR hS hb2
    by_cases hlt:(i2:Int)<(data.length:Int)
    ·go_wp2_with fail
     refine(fail_any HS.out _ _ (by decide)).mono ?_
     rintro r w3 ⟨rfl,h3,k3⟩
     have h3':PSt w3 pb {E with loc:=loc} (.error (e,a)):=h3
     obtain⟨-,i3,hi3,hb3⟩:=h3'.bad e a rfl
     obtain⟨hc3,-⟩:=cells_of hb3
     rw[hm]at hc3
     have H3:=hide h3'
     have K3:=hide (K2.out.comp k3 (S:=no) (fun _ _ h=>h) (fun b hb h=>by have :=HPB.out;unfold one at h;omega))
     clear h3 h3' hb3 hc2 k3
     go_wp2_with fail
     refine(bad_any H3.out).mono ?_
     rintro r w4 ⟨rfl,rfl⟩
     go_wp2_with fail
     go_quiet(fail)
     go_wp2_with fail
     refine bodyPost_ret (v:= .tuple #[.pointer none,.int .i64 e,.int .i64 a]) (by simp[results,Tryz.results87,go_sem]) rfl ?_
     exact⟨K3.out.drewN _,.inl ⟨e,a,HR.out,he,rfl⟩⟩
    ·go_wp2_with fail
     refine(bad_any HS.out).mono ?_
     rintro r w4 ⟨rfl,rfl⟩
     go_wp2_with fail
     go_quiet(fail)
     go_wp2_with fail
     refine bodyPost_ret (v:= .tuple #[.pointer none,.int .i64 e,.int .i64 a]) (by simp[results,Tryz.results87,go_sem]) rfl ?_
     exact⟨K2.out.drewN _,.inl ⟨e,a,HR.out,he,rfl⟩⟩
   |ok q=>
    have hR:=HRd.out
    have hS:=H2.out
    rw[hσ]at hR hS
    unfold lastR at hR
    simp only at hR
    obtain⟨hq,hb2⟩:=hS.ok q rfl
    obtain⟨hc2,-⟩:=cells_of hb2
    rw[hm]at hc2
    have HS:=hide hS
    clear hS hb2
    by_cases hlt:q<data.length
    ·rw[if_pos hlt]at hR
     have HR:=hide hR
     clear hR
     go_wp2_with fail
     refine(fail_any HS.out _ _ (by decide)).mono ?_
     rintro r w3 ⟨rfl,h3,k3⟩
     have h3':PSt w3 pb {E with loc:=loc} (.error (2,(q:Int))):=h3
     obtain⟨-,i3,hi3,hb3⟩:=h3'.bad 2 q rfl
     obtain⟨hc3,-⟩:=cells_of hb3
     rw[hm]at hc3
     have H3:=hide h3'
     have hbd:badM (Except.error (2,(q:Int)):PS)=true:=rfl
     have K3:=hide (K2.out.comp k3 (S:=no) (fun _ _ h=>h) (fun b hb h=>by have :=HPB.out;unfold one at h;omega))
     clear h3 h3' hb3 hc2 k3
     go_wp2_with fail
     refine(bad_any H3.out).mono ?_
     rintro r w4 ⟨rfl,rfl⟩
     go_wp2_with fail
     go_quiet(fail)
     go_wp2_with fail
     refine bodyPost_ret (v:= .tuple #[.pointer none,.int .i64 2,.int .i64 (q:Int)]) (by simp[results,Tryz.results87,go_sem]) rfl ?_
     exact⟨K3.out.drewN _,.inl ⟨2,q,HR.out,by decide,rfl⟩⟩
    ·rw[if_neg hlt]at hR
     have HR:=hide hR
     have hbd:badM (Except.ok q:PS)=false:=rfl
     clear hR
     go_wp2_with fail
     refine(bad_any HS.out).mono ?_
     rintro r w4 ⟨rfl,rfl⟩
     go_wp2_with fail
     refine bodyPost_ret (v:= .tuple #[ptr mb,.int .i64 0,.int .i64 0]) (by simp[results,Tryz.results87,go_sem]) rfl ?_
     have hgood:badM hd.2=false:=by
      cases hq2:hd.2 with
      |ok j=>rfl
      |error e=>
       have h0:=HσF.out
       rw[hσ,hq2,bodies_bad]at h0
       cases h0
     obtain⟨q1,q2,q3,q4⟩:=HG1.out hgood
     refine⟨K2.out,.inr ⟨hd.1.1,hd.1.2.1,hd.1.2.2.1,hd.1.2.2.2,pb,mb,base,tv,.slice adF fs.length capF,gv,HR.out,rfl,?_,?_,?_⟩⟩
     ·rw[q2,q3,q4];exact HM2.out
     ·have :=HMB.out;omega
     ·have :=HBS.out;omega
end Go.Proofs.YtdeplgkhmebalaaGreatDoor.Rf

set_option linter.unusedSimpArgs false
set_option linter.unusedVariables false
namespace Go.Proofs.YtdeplgkhmebalaaGreatDoor
open Go.RowKit

theorem bodies_typ {D:List UInt8} {ts:List Ty} {gl:List (UInt8×Bool)}: ∀(l:List Ty) (code:List Ins) (i:Nat) (fns:List FnM) (code2:List Ins) (k:Nat),bodiesM D ts gl l code i= .ok ((fns,code2),k)→fns.map (·.typ)=l:=by
 intro l
 induction l with
 |nil=>intro code i fns code2 k h;cases h;rfl
 |cons t rest ih=>
  intro code i fns code2 k h
  rw[bodiesM]at h
  split at h
  ·cases h
  ·rename_i f code1 j hb
   split at h
   ·cases h
   ·rename_i fs c2 k2 hr
    cases h
    have h1:=ih _ _ _ _ _ hr
    have h2:f.typ=t:=by
     unfold bodyM at hb
     split at hb
     ·cases hb
     ·split at hb
      ·cases hb
      ·simp only at hb
       split at hb
       ·cases hb
       ·split at hb
        ·cases hb
        ·cases hb;rfl
    rw[List.map_cons,h1,h2]
theorem globB_rb {D:List UInt8} {i:Nat} (h:i≤D.length):Rb D.length (globB D i):=by
 have hg:=glob_rb h
 rw[glob_map]at hg
 cases hb:globB D i with
 |error e=>rw[hb]at hg;exact hg
 |ok x=>
  obtain⟨x,j⟩:=x
  rw[hb]at hg
  exact hg
def convG (g:UInt8×UInt8×Nat):(UInt8×Bool)×Nat:=((g.1,g.2.1==1),g.2.2)
def globsB (D:List UInt8) (i:Nat):Rd (List (UInt8×UInt8×Nat)):=
 match belowM D 9 i with
 | .error e=> .error e
 | .ok (n,j)=>manyM (globB D) n j
theorem globs_map (D:List UInt8) (i:Nat):globsM D i=match globsB D i with | .error e=> .error e| .ok (l,j)=> .ok (l.map convG,j):=by
 unfold globsM globsB
 cases belowM D 9 i with
 |error e=>rfl
 |ok y=>
  obtain⟨n,j⟩:=y
  simp only
  rw[many_map (m:=globM D) (m':=globB D) (g:=convG) (fun i=>by
   rw[glob_map]
   cases globB D i<;>rfl) n j]
  cases manyM (globB D) n j<;>rfl
theorem read_err {E:Rf.PE} (hl: ¬2000<E.data.length) {e:Int×Int} (h:(Rf.headR E (.ok 0)).2= .error e):Rf.readR E= .error e:=by
 unfold Rf.readR
 rw[if_neg hl]
 simp only[h,bodies_bad]
theorem read_agree {E:Rf.PE} (he:E.en=E.data.length):match loadM E.data with
  | .error e=>Rf.readR E= .error e
  | .ok f=> ∃ts gs,Rf.readR E= .ok (ts,f.funcs.map (·.typ),gs,f.pages)∧f.globals=gs.map (·.2.2):=by
 have hle:E.en≤E.data.length:=by omega
 have htk:E.data.take E.en=E.data:=by rw[he,List.take_length]
 unfold loadM
 by_cases hl:2000<E.data.length
 ·rw[if_pos hl]
  simp only
  unfold Rf.readR
  rw[if_pos hl]
 ·rw[if_neg hl]
  have hm:=rf_magic (E:=E) (i:=0) hle (by omega)
  have hmr:=magic_rb (D:=E.data) (i:=0) (by omega)
  rw[htk]at hm
  have hh:Rf.headR E (.ok 0)=(((Rf.timesR E 16 (Rf.typeR E) (Rf.magicR E (.ok 0))).1,(Rf.timesR E 16 (Rf.funR E (Rf.timesR E 16 (Rf.typeR E) (Rf.magicR E (.ok 0))).1) (Rf.timesR E 16 (Rf.typeR E) (Rf.magicR E (.ok 0))).2).1,(Rf.timesR E 8 (Rf.globR E) (Rf.timesR E 16 (Rf.funR E (Rf.timesR E 16 (Rf.typeR E) (Rf.magicR E (.ok 0))).1) (Rf.timesR E 16 (Rf.typeR E) (Rf.magicR E (.ok 0))).2).2).1,(Rf.uM E 4 (Rf.timesR E 8 (Rf.globR E) (Rf.timesR E 16 (Rf.funR E (Rf.timesR E 16 (Rf.typeR E) (Rf.magicR E (.ok 0))).1) (Rf.timesR E 16 (Rf.typeR E) (Rf.magicR E (.ok 0))).2).2).2).1),(Rf.uM E 4 (Rf.timesR E 8 (Rf.globR E) (Rf.timesR E 16 (Rf.funR E (Rf.timesR E 16 (Rf.typeR E) (Rf.magicR E (.ok 0))).1) (Rf.timesR E 16 (Rf.typeR E) (Rf.magicR E (.ok 0))).2).2).2).2):=rfl
  cases h1:magicM E.data 0 with
  |error e=>
   rw[h1]at hm
   have hm':Rf.magicR E (.ok 0)= .error e:=hm
   refine read_err hl ?_
   rw[hh,hm']
   simp only[times_err,u_err]
  |ok x1=>
   obtain⟨u1,i1⟩:=x1
   rw[h1]at hm
   have hm':Rf.magicR E (.ok 0)= .ok i1:=hm
   have k1:i1≤E.data.length:=hmr.ok h1
   rw[hm']at hh
   have ht:=rf_times (E:=E) (i:=i1) hle (one:=Rf.typeR E) (m:=typeM E.data) 16 (fun i hi=>by have :=rf_type hle hi;rwa[htk]at this) (fun i hi=>by rw[he];exact type_rb (by omega)) (by omega)
   rw[htk]at ht
   have ht':Like (Rf.timesR E 16 (Rf.typeR E) (.ok i1)) (typesM E.data i1):=ht
   have htr:=types_rb (D:=E.data) (i:=i1) k1
   clear ht
   simp only
   cases h2:typesM E.data i1 with
   |error e=>
    refine read_err hl ?_
    rw[hh]
    simp only[ht'.err h2,times_err,u_err]
   |ok x2=>
    obtain⟨ts,i2⟩:=x2
    have k2:i2≤E.data.length:=htr.ok h2
    rw[ht'.ok h2]at hh
    simp only at hh
    have hf:=rf_times (E:=E) (i:=i2) hle (one:=Rf.funR E ts) (m:=fun i=>match belowM E.data ts.length i with | .error e=> .error e| .ok (k,j)=> .ok (ts.getD k ([],[]),j)) 16 (fun i hi=>by have :=rf_fun hle ts hi;rwa[htk]at this) (fun i hi=>by
     have hb:=below_rb (D:=E.data) (i:=i) (ts.length:Int) (by omega)
     rw[he]
     cases hq:belowM E.data ts.length i with
     |error e=>rw[hq]at hb;exact hb
     |ok y=>rw[hq]at hb;exact hb) (by omega)
    rw[htk]at hf
    have hf':Like (Rf.timesR E 16 (Rf.funR E ts) (.ok i2)) (funcsM E.data ts i2):=hf
    have hfr:=funcs_rb (D:=E.data) (i:=i2) ts k2
    clear hf
    simp only
    cases h3:funcsM E.data ts i2 with
    |error e=>
     refine read_err hl ?_
     rw[hh]
     simp only[hf'.err h3,times_err,u_err]
    |ok x3=>
     obtain⟨fs,i3⟩:=x3
     have k3:i3≤E.data.length:=hfr.ok h3
     rw[hf'.ok h3]at hh
     simp only at hh
     have hg:=rf_times (E:=E) (i:=i3) hle (one:=Rf.globR E) (m:=globB E.data) 8 (fun i hi=>by have :=rf_glob hle hi;rwa[htk]at this) (fun i hi=>by rw[he];exact globB_rb (by omega)) (by omega)
     rw[htk]at hg
     have hg':Like (Rf.timesR E 8 (Rf.globR E) (.ok i3)) (globsB E.data i3):=hg
     have hgr:=globs_rb (D:=E.data) (i:=i3) k3
     have hgm:=globs_map E.data i3
     clear hg
     simp only
     generalize globsB E.data i3=G at *
     cases G with
     |error e=>
      have h4:globsM E.data i3= .error e:=hgm
      rw[h4]
      refine read_err hl ?_
      rw[hh]
      have :=hg'.err rfl
      simp only[this,u_err]
     |ok x4=>
      obtain⟨gs,i4⟩:=x4
      have h4:globsM E.data i3= .ok (gs.map convG,i4):=hgm
      have k4:i4≤E.data.length:=hgr.ok h4
      rw[h4]
      rw[hg'.ok rfl]at hh
      simp only at hh⊢
      have hp:=rf_u (E:=E) (i:=i4) hle 4 (by omega)
      rw[htk]at hp
      have hp':Like (Rf.uM E 4 (.ok i4)) (belowM E.data 5 i4):=hp
      have hpr:=below_rb (D:=E.data) (i:=i4) 5 k4
      clear hp
      cases h5:belowM E.data 5 i4 with
      |error e=>
       refine read_err hl ?_
       rw[hh]
       simp only[hp'.err h5]
      |ok x5=>
       obtain⟨pages,i5⟩:=x5
       have k5:i5≤E.data.length:=hpr.ok h5
       rw[hp'.ok h5]at hh
       simp only at hh⊢
       have hb:=bodies_agree he (by omega) fs gs fs [] i5 (funcs_ok (types_ok h2) h3) (by omega)
       have hmm:List.map (fun x:(UInt8×Bool)×Nat=>x.1) (gs.map convG)=gs.map fun g=>(g.1,g.2.1==1):=by rw[List.map_map];rfl
       rw[hmm]
       have hR:Rf.readR E=match (match bodiesM E.data fs (gs.map fun g=>(g.1,g.2.1==1)) fs [] i5 with | .error e=> .error e| .ok (_,q)=> .ok q:Rf.PS)with | .error e=> .error e| .ok i=>if i<E.data.length then .error (2,(i:Int))else .ok (ts,fs,gs,pages):=by
        unfold Rf.readR
        rw[if_neg hl,hh]
        simp only
        rw[hb]
        cases bodiesM E.data fs (gs.map fun g=>(g.1,g.2.1==1)) fs [] i5 with
        |error e=>rfl
        |ok y=>rfl
       cases h6:bodiesM E.data fs (gs.map fun g=>(g.1,g.2.1==1)) fs [] i5 with
       |error e=>rw[h6]at hR;exact hR
       |ok x6=>
        obtain⟨⟨fns,code⟩,i6⟩:=x6
        rw[h6]at hR
        simp only at hR⊢
        have hty:=bodies_typ _ _ _ _ _ _ h6
        by_cases h7:i6<E.data.length
        ·rw[if_pos h7]at hR⊢;exact hR
        ·rw[if_neg h7]at hR⊢
         refine⟨ts,gs,?_,?_⟩
         ·rw[hR]
          show _=Except.ok (ts,fns.map (·.typ),gs,pages)
          rw[hty]
         ·show List.map (fun x:(UInt8×Bool)×Nat=>x.2) (gs.map convG)=_
          rw[List.map_map];rfl
end Go.Proofs.YtdeplgkhmebalaaGreatDoor
