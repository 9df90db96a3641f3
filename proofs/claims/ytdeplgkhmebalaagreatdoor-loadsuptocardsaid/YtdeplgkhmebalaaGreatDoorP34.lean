/- The program's look at a module: the whole of it. -/
import Derived.Test.YtdeplgkhmebalaaGreatDoorP30
import Derived.Test.YtdeplgkhmebalaaGreatDoorP31
import Derived.Test.YtdeplgkhmebalaaGreatDoorP19

set_option linter.unusedSimpArgs false
set_option linter.unusedVariables false
set_option maxHeartbeats 6000000
set_option maxRecDepth 100000
namespace Go.Proofs.YtdeplgkhmebalaaGreatDoor
open Go.RowKit

def stageF (k:Nat):Nat:=match k with
 |0=>75
 |1=>76
 |2=>77
 |3=>78
 |4=>79
 |5=>80
 |_=>81

section
variable{I:LIds} {w:World} {s:Lkr}
theorem stage_any {k:Nat} (h:LSt I w s) (hi:Inv k s) (hR:RowsAt w I.lo) (hk:k<7):Calls Tryz.prog (stageF k) #[ptrTo I.kb] w fun r w'=>LDone I w w' (stage I k s) r∧Kp (upl I) w w':=by
 match k,hi,hk with
 |0,hi,_=>exact readMagic_any h
 |1,hi,_=>exact readTypes_any h (by rw[hi.t0 (by decide)];simp)
 |2,hi,_=>exact readFuncs_any h (Nat.le_trans hi.tn (by decide)) (by rw[hi.f0 (by decide)];simp)
 |3,hi,_=>exact readGlobals_any h (by rw[(hi.g0 (by decide)).1];simp) (by rw[(hi.g0 (by decide)).2];simp)
 |4,hi,_=>exact readPages_any h
 |5,hi,_=>exact readBodies_any h hR (hi.fn (by decide)) hi.gn hi.fl (by rw[hi.c0 (by decide)];simp)
 |6,hi,_=>exact readEnd_any h

theorem LSt.toMod (h:LSt I w s) (hmb:I.B≤I.mb): ∃fv gv cv,w.heap[I.mb]? =some (.cells #[fv,gv,.int .i64 s.pages,cv] 121)∧ModG w (fun b=>I.B≤b∧b<w.heap.size) I.mb 121 ⟨s.fns,s.vals,s.pages,s.code⟩ fv gv cv∧(∃ad n cap,fv= .slice ad n cap)∧(∃ad n cap,gv= .slice ad n cap)∧(∃ad n cap,cv= .slice ad n cap):=by
 obtain⟨role,tv,gv,fv,glv,cv,tys,fs,h⟩:=h
 have nr: ∀{v:Value} {n:Nat} {xs:List Value} {e:TypeId} {sz:Nat},w.ownsRow I.B e sz v n xs→RoV (fun b=>I.B≤b∧b<w.heap.size) v:=fun ho b hb=>⟨own_new ho b hb,own_lt ho hb⟩
 refine⟨fv,glv,cv,h.mod,⟨h.mod,⟨hmb,lt_of_blk h.mod⟩,?_,?_,nr h.vals,?_⟩,?_,?_,?_⟩
 ·obtain⟨ad,cap,hfv,hcap⟩:=(RowAt.own h.funcs).shape
  refine⟨ad,cap,hfv,hcap,fun k hk=> ?_⟩
  have hk':k<s.fns.length:=hk
  obtain⟨a,cap',x,hfv',-,hx,hxe,hxm,c0,c1,c2,c3,-⟩:=h.fn hk'
  rw[hfv]at hfv'
  cases hfv'
  have hin:=nr h.funcs a (by rw[hfv];rfl)
  have hxe':x.1=s.fns.getD k fn0:=hxe
  refine⟨a,0,x.2.1,x.2.2,rfl,hin,by rw[Nat.zero_add];exact c0,by rw[Nat.zero_add];exact c1,by rw[Nat.zero_add,←hxe'];exact c2,by rw[Nat.zero_add,←hxe'];exact c3,?_,?_,?_,?_⟩
  ·rw[←hxe'];exact(h.fnB x hxm).1
  ·exact fun b hb=>⟨(h.fnN x hxm).1 b hb,((h.fnR x hxm).1 b hb).2⟩
  ·rw[←hxe'];exact(h.fnB x hxm).2
  ·exact fun b hb=>⟨(h.fnN x hxm).2 b hb,((h.fnR x hxm).2 b hb).2⟩
 ·have :=RowAt.own h.vals
  unfold ValsAt
  simpa[valCells,List.map_map,Function.comp_def]using this
 ·obtain⟨ad,cap,hcv,hcap⟩:=(RowAt.own h.code).shape
  refine⟨ad,cap,hcv,hcap,fun k hk=> ?_⟩
  have hk':k<s.code.length:=hk
  obtain⟨a,cap',hcv',-,-⟩:=h.code.form (by omega)
  have hin:=nr h.code a (by rw[hcv'];rfl)
  have hc: ∀j,j<5→w.cell? ⟨a,k*5+j,none⟩=(Ins.cells (s.code.getD k ins0))[j]? :=by
   intro j hj
   have :=h.code
   rw[hcv']at this
   rw[this.cellAt (k*5+j) (by omega),flat_get Ins.len s.code k j hj,List.getD_eq_getElem?_getD,List.getElem?_eq_getElem hk'];rfl
  rw[hcv]at hcv'
  cases hcv'
  exact⟨a,0,rfl,hin,by rw[Nat.zero_add];exact hc 0 (by decide),by rw[Nat.zero_add];exact hc 1 (by decide),by rw[Nat.zero_add];exact hc 2 (by decide),by rw[Nat.zero_add];exact hc 3 (by decide),by rw[Nat.zero_add];exact hc 4 (by decide)⟩
 ·obtain⟨x1,x2,x3⟩:=own_shape h.funcs;exact⟨x1,_,x2,x3⟩
 ·obtain⟨x1,x2,x3⟩:=own_shape h.vals;exact⟨x1,_,x2,x3⟩
 ·obtain⟨x1,x2,x3⟩:=own_shape h.code;exact⟨x1,_,x2,x3⟩
end

def MDone (w w':World) (m:Except (Int×Int) Flat) (r:Ending):Prop:=
 match m with
 | .ok f=> ∃mb fv gv cv,r= .returned (.tuple #[ptrTo mb,.pointer none])∧ModG w' (fun b=>w.heap.size≤b∧b<w'.heap.size) mb 121 f fv gv cv∧(∃ad n cap,fv= .slice ad n cap)∧(∃ad n cap,gv= .slice ad n cap)∧(∃ad n cap,cv= .slice ad n cap)
 | .error e=> ∃fv,r= .returned (.tuple #[.pointer none,fv])∧FaultAt w w' fv e

theorem module_any {w:World} {dv:Value} {D:List UInt8} (hb:BytesAt w dv D) (hd: ∀b,dv.ownBlock=some b→b<w.heap.size) (hR:RowsAt w (fun b=>b<w.heap.size)) (hl:D.length≤1000000):
  Calls Tryz.prog 54 #[dv] w fun r w'=>MDone w w' (loadM D) r∧Kp no w w':=by
 obtain⟨ad,cap,hv,hcap⟩:=hb.shape
 by_cases hlong:2000<D.length
 ·have hM:loadM D= .error (1,0):=by unfold loadM;rw[if_pos hlong]
  subst hv
  rw[hM]
  clear hM hb hR hd
  go_enter Tryz.func54,Tryz.ntmps54
  go_wp2
  go_ret2
  exact⟨⟨ptrTo w.heap.size,rfl,w.heap.size,rfl,Nat.le_refl _,heap_alloc_new _ _⟩,(Kp.refl _ _).alloc _⟩
 ·have hnew:=new_any hb (by omega) hd
  have HB:=hide hb
  have HN:=hide hnew
  have HR:=hide hR
  have HD:=hide hd
  subst hv
  clear hb hnew hR hd
  go_enter Tryz.func54,Tryz.ntmps54
  go_wp2_with fail
  refine HN.out.mono ?_
  rintro r w1 ⟨rfl,hrs,k1⟩
  have HRs:=hide hrs
  have hs1:=lt_of_blk hrs.blk
  have K1:=hide k1
  clear hrs k1
  go_wp2
  obtain⟨mb,hmb⟩: ∃mb,mb=w1.heap.size:=⟨_,rfl⟩
  obtain⟨F,hF⟩: ∃F:Array Value,F= #[.func (.func 75) #[ptrTo (w1.heap.size+1)] #[],.func (.func 76) #[ptrTo (w1.heap.size+1)] #[],.func (.func 77) #[ptrTo (w1.heap.size+1)] #[],.func (.func 78) #[ptrTo (w1.heap.size+1)] #[],.func (.func 79) #[ptrTo (w1.heap.size+1)] #[],.func (.func 80) #[ptrTo (w1.heap.size+1)] #[],.func (.func 81) #[ptrTo (w1.heap.size+1)] #[]]:=⟨_,rfl⟩
  obtain⟨W,hW⟩: ∃W,W=((w1.alloc (.cells #[.slice none 0 0,.slice none 0 0,.int .i64 0,.slice none 0 0] 121)).alloc (.cells #[ptrTo w.heap.size,.slice none 0 0,.slice none 0 0,ptrTo w1.heap.size] 182)).alloc (.cells F 183):=⟨_,rfl⟩
  have e1:W.heap.size=w1.heap.size+3:=by rw[hW];simp
  have hk2:W.heap[w1.heap.size+1]? =some (.cells #[ptrTo w.heap.size,.slice none 0 0,.slice none 0 0,ptrTo w1.heap.size] 182):=by rw[hW];exact heap_alloc_old (heap_alloc_at (by simp) _)
  have hm2:W.heap[w1.heap.size]? =some (.cells #[.slice none 0 0,.slice none 0 0,.int .i64 0,.slice none 0 0] 121):=by rw[hW];exact heap_alloc_old (heap_alloc_old (heap_alloc_at rfl _))
  obtain⟨I,hI⟩: ∃I:LIds,I=⟨w.heap.size,w1.heap.size+3,fun b=>b<w.heap.size∨b=w1.heap.size+2,fun b hb=>by rcases hb with h|h<;>omega,by omega,w.heap.size,w1.heap.size+1,w1.heap.size,.slice ad D.length cap,D⟩:=⟨_,rfl⟩
  have kW:Kp no w1 W:=by rw[hW];exact(((Kp.refl _ _).alloc _).alloc _).alloc _
  have hq:W.heap[w1.heap.size+2]? =some (.cells F 183):=by rw[hW];exact heap_alloc_at (by simp) _
  have hst:LSt I W lk0:=by
   rw[hI]
   refine⟨fun b=>if b=w.heap.size then 1 else if b=w1.heap.size then 2 else if b=w1.heap.size+1 then 3 else 0,.slice none 0 0,.slice none 0 0,.slice none 0 0,.slice none 0 0,.slice none 0 0,[],[],?_⟩
   refine⟨by show w1.heap.size+3≤W.heap.size;omega,HRs.out.kp kW (fun h=>h) (fun _ _ _ h=>h),?_,?_,World.ownsRow_nil _ _ _ _,World.ownsRow_nil _ _ _ _,World.ownsRow_nil _ _ _ _,World.ownsRow_nil _ _ _ _,World.ownsRow_nil _ _ _ _,rfl,rfl,fun x hx=>(by cases hx),fun x hx=>(by cases hx),?_,?_,?_,fun b hb=>(by cases hb),fun b hb=>(by cases hb),fun b hb=>(by cases hb),fun b hb=>(by cases hb),fun b hb=>(by cases hb),fun x hx=>(by cases hx),fun x hx=>(by cases hx),?_,fun b hb=> .inl (HD.out b hb),fun x hx=>(by cases hx),fun x hx=>(by cases hx)⟩
   ·exact hk2
   ·exact hm2
   ·exact if_pos rfl
   ·show(if w1.heap.size=w.heap.size then 1 else if w1.heap.size=w1.heap.size then 2 else if w1.heap.size=w1.heap.size+1 then 3 else 0)=2
    rw[if_neg (by omega),if_pos rfl]
   ·show(if w1.heap.size+1=w.heap.size then 1 else if w1.heap.size+1=w1.heap.size then 2 else if w1.heap.size+1=w1.heap.size+1 then 3 else 0)=3
    rw[if_neg (by omega),if_neg (by omega),if_pos rfl]
   ·intro b hb
    show(if b=w.heap.size then 1 else if b=w1.heap.size then 2 else if b=w1.heap.size+1 then 3 else 0)=0
    rcases hb with h|h
    ·rw[if_neg (by omega),if_neg (by omega),if_neg (by omega)]
    ·rw[if_neg (by omega),if_neg (by omega),if_neg (by omega)]
  have hRW:RowsAt W I.lo:=by
   have h1:=HR.out.kp (ro:=fun b=>b<w.heap.size) (w':=W) ((K1.out.trans kW).any)
   refine h1.le (fun b hb=> ?_)
   rw[hI];exact .inl hb
  have hIB:I.B=w.heap.size∧I.mb=w1.heap.size∧I.kb=w1.heap.size+1∧I.D=D∧I.lo (w1.heap.size+2):=by rw[hI];exact⟨rfl,rfl,rfl,rfl,.inr rfl⟩
  have hlo: ∀b,I.lo b∨w.heap.size≤b:=fun b=>by
   rw[hI]
   rcases Nat.lt_or_ge b w.heap.size with h|h
   ·exact .inl (.inl h)
   ·exact .inr h
  have hM:=load_eq I (by rw[hIB.2.2.2.1];omega)
  rw[hIB.2.2.2.1]at hM
  obtain⟨hB,hmbI,hkbI,-,hqI⟩:=hIB
  have K2:=hide (K1.out.trans kW)
  have HSt:=hide hst
  have HRW:=hide hRW
  have HQ:=hide hq
  have HM:=hide hM
  have HLo:=hide hlo
  have HFd:=hide hF
  clear hst hRW hq hM hlo kW hI hmb hk2 hm2
  rw[←hF,←hW]
  clear hF
  have hWs:w.heap.size≤W.heap.size:=K2.out.size
  clear hW
  go_loopw [37] (fun kv wr=> ∃(k:Nat) (s:Lkr),k≤7∧kv= .int .i64 k∧LSt I wr s∧(k≤5→Inv k s)∧Kp (upl I) W wr∧stg I 7 lk0=stg I (7 -k) s) (fun kv _=>7 - (intOf kv).toNat)
  case atStart=>exact⟨0,lk0,by omega,rfl,HSt.out,fun _=>Inv.zero,(Kp.refl no W).any,rfl⟩
  case round=>
   obtain⟨k,s,hk,rfl,hst,hinv,hkp,hlab⟩:=hrel
   have hQr:=cells_of (hkp.blk HQ.out (fun hn=>hn hqI))
   obtain⟨hqc,-⟩:=hQr
   have HS:=hide hst
   have HK:=hide hkp
   have hszr:=hkp.size
   have hF:=HFd.out
   have hwB:Kp no w wr:=K2.out.comp (S2:=upl I) hkp (fun _ _ h=>h) (fun b hb hn=>by
    rcases HLo.out b with h|h
    ·exact hn h
    ·omega)
   have KwB:=hide hwB
   by_cases hk7:k<7
   ·have hrw:=HRW.out.kp (ro:=I.lo) hkp
    have hinv':Inv k s∨k=6:=by
     rcases Nat.lt_or_ge k 6 with h|h
     ·exact .inl (hinv (by omega))
     ·exact .inr (by omega)
    have hone:Calls Tryz.prog (stageF k) #[ptrTo I.kb] wr fun r w'=>LDone I wr w' (stage I k s) r∧Kp (upl I) wr w':=by
     rcases hinv' with h|h
     ·exact stage_any hst h hrw hk7
     ·subst h;exact readEnd_any hst
    have hnext:=fun s'=>fun(hle:k≤4) (he:stage I k s= .ok s')=>(hinv (by omega)).step hle he
    have hlab2:stg I 7 lk0=(match stage I k s with | .error e=> .error e| .ok s'=>stg I (6 -k) s'):=by
     rw[hlab,show 7 -k=(6 -k)+1 by omega]
     show(match stage I (6 - (6 -k)) s with | .error e=> .error e| .ok s'=>stg I (6 -k) s':Except (Int×Int) Lkr)=_
     rw[show 6 - (6 -k)=k by omega]
    clear hlab
    have hlab:=hlab2
    clear hlab2
    rw[hkbI]at hone
    generalize stage I k s=Q at *
    have hqc': ∀o,wr.cell? ⟨w1.heap.size+1+1,o,none⟩=F[o]? :=hqc
    subst hF
    have HO:=hide hone
    have HL:=hide hlab
    clear hone hlab hst hkp hrw hinv hinv' hqc hwB
    match Q,HL,HO,hnext with
    | .error e,HL,HO,_=>
     rcases(by omega :k=0∨k=1∨k=2∨k=3∨k=4∨k=5∨k=6)with rfl |rfl |rfl |rfl |rfl |rfl |rfl
     all_goals
      go_wp2_with fail
      refine HO.out.mono ?_
      rintro r w3 ⟨⟨fv,rfl,fb,rfl,hfb,hfo⟩,k3⟩
      have HF:=hide hfo
      have hfb':w.heap.size≤fb:=by omega
      have hwB:=KwB.out.comp (S2:=upl I) k3 (fun _ _ h=>h) (fun b hb hn=>by
       rcases HLo.out b with h|h
       ·exact hn h
       ·omega)
      have KwB3:=hide hwB
      clear hfo k3 hwB
      go_wp2
      go_ret2
      rw[HM.out,HL.out]
      exact⟨⟨ptrTo fb,rfl,fb,rfl,hfb',HF.out⟩,KwB3.out⟩
    | .ok s',HL,HO,hnext=>
     have hrel': ∀w3,LSt I w3 s'→Kp (upl I) wr w3→ ∃(k2:Nat) (s2:Lkr),k2≤7∧Value.int .i64 ((k+1:Nat):Int)= .int .i64 k2∧LSt I w3 s2∧(k2≤5→Inv k2 s2)∧Kp (upl I) W w3∧stg I 7 lk0=stg I (7 -k2) s2:=
      fun w3 h3 k3=>⟨k+1,s',by omega,rfl,h3,fun h=>hnext s' (by omega) rfl,HK.out.trans k3,by rw[HL.out,show 7 - (k+1)=6 -k by omega]⟩
     have HRel:=hide hrel'
     clear hnext hrel'
     rcases(by omega :k=0∨k=1∨k=2∨k=3∨k=4∨k=5∨k=6)with rfl |rfl |rfl |rfl |rfl |rfl |rfl
     all_goals
      go_wp2_with fail
      refine HO.out.mono ?_
      rintro r w3 ⟨⟨rfl,h3⟩,k3⟩
      have H3:=hide h3
      have K3:=hide k3
      clear h3 k3
      go_wp2
      go_roundw
      case rel=>exact HRel.out _ H3.out K3.out
      case measure=>simp[intOf]
   ·obtain rfl :k=7:=by omega
    have hlab':stg I 7 lk0= .ok s:=hlab
    obtain⟨fv,gv,cv,hmo,hmod,s1,s2,s3⟩:=hst.toMod (by rw[hB,hmbI];omega)
    obtain⟨tv1,gv1,hlk,-,-,-,-,-⟩:=hst.lookAt
    obtain⟨hkc,-⟩:=cells_of hlk
    rw[hkbI]at hkc
    have HMod:=hide hmod
    have HLb:=hide hlab'
    clear hst hinv hkp hlab hlab' hmo hmod hqc hlk hwB hF
    subst HFd
    go_wp2
    go_ret2
    rw[HM.out,HLb.out]
    rw[hB,hmbI]at HMod
    exact⟨⟨w1.heap.size,fv,gv,cv,rfl,HMod.out,s1,s2,s3⟩,KwB.out⟩

end Go.Proofs.YtdeplgkhmebalaaGreatDoor

set_option linter.unusedSimpArgs false
set_option linter.unusedVariables false
set_option maxHeartbeats 2000000
set_option maxRecDepth 100000
namespace Go.Proofs.YtdeplgkhmebalaaGreatDoor
open Go.RowKit

abbrev made (w w':World):Nat→Prop:=fun b=>w.heap.size≤b∧b<w'.heap.size

def LoadDone (w w':World) (m:Except (Int×Int) Flat) (r:Ending):Prop:=
 match m with
 | .ok f=> ∃mb,r= .returned (.tuple #[ptrTo mb,.int .i64 0,.int .i64 0])∧ModAt w' (made w w') mb 123 f
 | .error e=>r= .returned (.tuple #[.pointer none,.int .i64 e.1,.int .i64 e.2])

theorem RoV.le {ro ro':Nat→Prop} {v:Value} (h:RoV ro v) (hr: ∀b,ro b→ro' b):RoV ro' v:=fun b hb=>hr b (h b hb)
theorem FuncsAt.le {w:World} {ro ro':Nat→Prop} {v:Value} {fs:List FnM} (h:FuncsAt w ro v fs) (hr: ∀b,ro b→ro' b):FuncsAt w ro' v fs:=by
 obtain⟨ad,cap,hv,hc,hk⟩:=h
 refine⟨ad,cap,hv,hc,fun j hj=> ?_⟩
 obtain⟨a,o,pv,rv,had,hro,h1,h2,h3,h4,h5,h6,h7,h8⟩:=hk j hj
 exact⟨a,o,pv,rv,had,hr _ hro,h1,h2,h3,h4,h5,h6.le hr,h7,h8.le hr⟩
theorem CodeAt.le {w:World} {ro ro':Nat→Prop} {v:Value} {cs:List Ins} (h:CodeAt w ro v cs) (hr: ∀b,ro b→ro' b):CodeAt w ro' v cs:=by
 obtain⟨ad,cap,hv,hc,hk⟩:=h
 refine⟨ad,cap,hv,hc,fun j hj=> ?_⟩
 obtain⟨a,o,had,hro,h1⟩:=hk j hj
 exact⟨a,o,had,hr _ hro,h1⟩

theorem load_any {w:World} {dv:Value} {D:List UInt8} (hb:BytesAt w dv D) (hd: ∀b,dv.ownBlock=some b→b<w.heap.size) (hR:RowsAt w (fun b=>b<w.heap.size)) (hl:D.length≤1000000):
  Calls Tryz.prog 35 #[dv] w fun r w'=>LoadDone w w' (loadM D) r∧Kp no w w':=by
 have hm:=module_any hb hd hR hl
 obtain⟨ad,cap,rfl,hcap⟩:=hb.shape
 generalize loadM D=Q at *
 have HM:=hide hm
 clear hm hb hd hR
 match Q,HM with
 | .error e,HM=>
  go_enter Tryz.func35,Tryz.ntmps35
  go_wp2_with fail
  refine HM.out.mono ?_
  rintro r w1 ⟨⟨fv,rfl,fb,rfl,hfb,hfo⟩,k1⟩
  obtain⟨hfc,-⟩:=cells_of hfo
  have K1:=hide k1
  clear k1 hfo
  go_wp2_with fail
  refine wp_region_S 11 (fun w'=> ∀o,w'.cell? ⟨fb,o,none⟩= #[.int .i64 e.1,.int .i64 e.2][o]?) (by kernel_rfl) (n:=11) rfl rfl ?hS (fun hS=> ?_)
  case hS=>exact fun o=>hfc o
  refine tk 0 [] rfl (by kernel_rfl) rfl (fun _ _ _ h=>h) hS (fun _ h=>by(try dsimp only at h);go_simp;all_goals with_reducible rfl) ?_
  simp only[pS]
  refine tk 1 [] rfl (by kernel_rfl) rfl (fun _ _ _ h=>h) hS (fun _ h=>by(try dsimp only at h);go_simp;all_goals with_reducible rfl) ?_
  simp only[pS]
  refine tk 2 [] rfl (by kernel_rfl) rfl (fun _ _ _ h=>h) hS (fun _ h=>by(try dsimp only at h);go_simp;all_goals with_reducible rfl) ?_
  simp only[pS]
  refine tk 3 [] rfl (by kernel_rfl) rfl (fun _ _ _ h=>h) hS (fun _ h=>by(try dsimp only at h);go_simp;all_goals with_reducible rfl) ?_
  simp only[pS]
  refine tk 4 [] rfl (by kernel_rfl) rfl (fun _ _ _ h=>h) hS (fun _ h=>by(try dsimp only at h);go_simp;all_goals with_reducible rfl) ?_
  simp only[pS]
  refine tk 5 [] rfl (by kernel_rfl) rfl (fun _ _ _ h=>h) hS (fun _ h=>by(try dsimp only at h);go_simp;all_goals with_reducible rfl) ?_
  simp only[pS]
  refine tk 6 [] rfl (by kernel_rfl) rfl (fun _ _ _ h=>h) hS (fun _ h=>by(try dsimp only at h);go_simp;all_goals with_reducible rfl) ?_
  simp only[pS]
  refine tk 7 [] rfl (by kernel_rfl) rfl (fun _ _ _ h=>h) hS (fun _ h=>by(try dsimp only at h);go_simp;all_goals with_reducible rfl) ?_
  simp only[pS]
  refine tk 8 [] rfl (by kernel_rfl) rfl (fun _ _ _ h=>h) hS (fun _ h=>by(try dsimp only at h);go_simp;all_goals with_reducible rfl) ?_
  simp only[pS]
  refine tk 9 [] rfl (by kernel_rfl) rfl (fun _ _ _ h=>h) hS (fun _ h=>by(try dsimp only at h);go_simp;all_goals with_reducible rfl) ?_
  simp only[pS]
  refine tk 10 [] rfl (by kernel_rfl) rfl (fun _ _ _ h=>h) hS (fun _ h=>by(try dsimp only at h);go_simp;all_goals with_reducible rfl) ?_
  simp only[pS]
  refine wpAnyS_done (by kernel_rfl) ?_ _
  clear hS
  go_wp2
  go_ret3
  exact⟨rfl,K1.out.drew⟩
 | .ok f,HM=>
  go_enter Tryz.func35,Tryz.ntmps35
  go_wp2_with fail
  refine HM.out.mono ?_
  rintro r w1 ⟨⟨mb,fv,gv,cv,rfl,hmod,⟨a1,n1,c1,rfl⟩,⟨a2,n2,c2,rfl⟩,⟨a3,n3,c3,rfl⟩⟩,k1⟩
  obtain⟨hmc,-⟩:=cells_of hmod.blk
  have K1:=hide k1
  have HMod:=hide hmod
  have hsz:=k1.size
  clear k1 hmod
  go_wp2
  go_ret3
  have kF:Kp no w1 (w1.alloc (.cells #[.slice a1 n1 c1,.slice a2 n2 c2,.int .i64 f.pages,.slice a3 n3 c3] 123)):=(Kp.refl _ _).alloc _
  refine⟨⟨w1.heap.size,rfl,.slice a1 n1 c1,.slice a2 n2 c2,.slice a3 n3 c3,heap_alloc_new _ _,⟨hsz,by simp⟩,?_,?_,?_,?_⟩,K1.out.alloc _⟩
  ·exact(HMod.out.funcs.kp kF.any).le (fun b hb=>⟨hb.1,by have :=hb.2;simp;omega⟩)
  ·exact RowAt.kp HMod.out.vals kF (fun _ _ h=>h)
  ·exact HMod.out.valsR.le (fun b hb=>⟨hb.1,by have :=hb.2;simp;omega⟩)
  ·exact(HMod.out.code.kp kF.any).le (fun b hb=>⟨hb.1,by have :=hb.2;simp;omega⟩)

end Go.Proofs.YtdeplgkhmebalaaGreatDoor

set_option linter.unusedSimpArgs false
set_option linter.unusedVariables false
set_option maxHeartbeats 2000000
set_option maxRecDepth 100000
namespace Go.Proofs.YtdeplgkhmebalaaGreatDoor
open Go.RowKit

theorem module_long {w:World} {dv:Value} {D:List UInt8} (hb:BytesAt w dv D) (hlong:2000<D.length):
  Calls Tryz.prog 54 #[dv] w fun r w'=>(∃fv,r= .returned (.tuple #[.pointer none,fv])∧FaultAt w w' fv (1,0))∧Kp no w w':=by
 obtain⟨ad,cap,hv,hcap⟩:=hb.shape
 subst hv
 clear hb
 go_enter Tryz.func54,Tryz.ntmps54
 go_wp2
 go_ret2
 exact⟨⟨ptrTo w.heap.size,rfl,w.heap.size,rfl,Nat.le_refl _,heap_alloc_new _ _⟩,(Kp.refl _ _).alloc _⟩
theorem load_long {w:World} {dv:Value} {D:List UInt8} (hb:BytesAt w dv D) (hlong:2000<D.length):
  Calls Tryz.prog 35 #[dv] w fun r w'=>r= .returned (.tuple #[.pointer none,.int .i64 1,.int .i64 0])∧Kp no w w':=by
 have hm:=module_long hb hlong
 obtain⟨ad,cap,rfl,hcap⟩:=hb.shape
 have HM:=hide hm
 clear hm hb
 go_enter Tryz.func35,Tryz.ntmps35
 go_wp2_with fail
 refine HM.out.mono ?_
 rintro r w1 ⟨⟨fv,rfl,fb,rfl,hfb,hfo⟩,k1⟩
 obtain⟨hfc,-⟩:=cells_of hfo
 have K1:=hide k1
 clear k1 hfo
 go_wp2_with fail
 refine wp_region_S 11 (fun w'=> ∀o,w'.cell? ⟨fb,o,none⟩= #[.int .i64 1,.int .i64 0][o]?) (by kernel_rfl) (n:=11) rfl rfl ?hS (fun hS=> ?_)
 case hS=>exact fun o=>hfc o
 refine tk 0 [] rfl (by kernel_rfl) rfl (fun _ _ _ h=>h) hS (fun _ h=>by(try dsimp only at h);go_simp;all_goals with_reducible rfl) ?_
 simp only[pS]
 refine tk 1 [] rfl (by kernel_rfl) rfl (fun _ _ _ h=>h) hS (fun _ h=>by(try dsimp only at h);go_simp;all_goals with_reducible rfl) ?_
 simp only[pS]
 refine tk 2 [] rfl (by kernel_rfl) rfl (fun _ _ _ h=>h) hS (fun _ h=>by(try dsimp only at h);go_simp;all_goals with_reducible rfl) ?_
 simp only[pS]
 refine tk 3 [] rfl (by kernel_rfl) rfl (fun _ _ _ h=>h) hS (fun _ h=>by(try dsimp only at h);go_simp;all_goals with_reducible rfl) ?_
 simp only[pS]
 refine tk 4 [] rfl (by kernel_rfl) rfl (fun _ _ _ h=>h) hS (fun _ h=>by(try dsimp only at h);go_simp;all_goals with_reducible rfl) ?_
 simp only[pS]
 refine tk 5 [] rfl (by kernel_rfl) rfl (fun _ _ _ h=>h) hS (fun _ h=>by(try dsimp only at h);go_simp;all_goals with_reducible rfl) ?_
 simp only[pS]
 refine tk 6 [] rfl (by kernel_rfl) rfl (fun _ _ _ h=>h) hS (fun _ h=>by(try dsimp only at h);go_simp;all_goals with_reducible rfl) ?_
 simp only[pS]
 refine tk 7 [] rfl (by kernel_rfl) rfl (fun _ _ _ h=>h) hS (fun _ h=>by(try dsimp only at h);go_simp;all_goals with_reducible rfl) ?_
 simp only[pS]
 refine tk 8 [] rfl (by kernel_rfl) rfl (fun _ _ _ h=>h) hS (fun _ h=>by(try dsimp only at h);go_simp;all_goals with_reducible rfl) ?_
 simp only[pS]
 refine tk 9 [] rfl (by kernel_rfl) rfl (fun _ _ _ h=>h) hS (fun _ h=>by(try dsimp only at h);go_simp;all_goals with_reducible rfl) ?_
 simp only[pS]
 refine tk 10 [] rfl (by kernel_rfl) rfl (fun _ _ _ h=>h) hS (fun _ h=>by(try dsimp only at h);go_simp;all_goals with_reducible rfl) ?_
 simp only[pS]
 refine wpAnyS_done (by kernel_rfl) ?_ _
 clear hS
 go_wp2
 go_ret3
 exact⟨rfl,K1.out.drew⟩
theorem load_all {w:World} {dv:Value} {D:List UInt8} (hb:BytesAt w dv D) (hd: ∀b,dv.ownBlock=some b→b<w.heap.size) (hR:RowsOk w):
  Calls Tryz.prog 35 #[dv] w fun r w'=>LoadDone w w' (loadM D) r∧Kp no w w':=by
 by_cases hlong:2000<D.length
 ·have hM:loadM D= .error (1,0):=by unfold loadM;rw[if_pos hlong]
  rw[hM]
  exact load_long hb hlong
 ·exact load_any hb hd hR (by omega)

end Go.Proofs.YtdeplgkhmebalaaGreatDoor
