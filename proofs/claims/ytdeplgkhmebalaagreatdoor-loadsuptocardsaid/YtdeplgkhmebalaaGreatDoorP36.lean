/- The law's book: do the lists still read as their owner wrote them? -/
import Derived.Test.YtdeplgkhmebalaaGreatDoorP35

set_option linter.unusedSimpArgs false
set_option linter.unusedVariables false
set_option maxHeartbeats 4000000
set_option maxRecDepth 100000
namespace Go.Proofs.YtdeplgkhmebalaaGreatDoor
open Go.RowKit

theorem Ls.kp {w w':World} {ro:Nat→Prop} {v:Value} {m:UInt8} (h:Ls w ro v m) (k:Kp no w w'):Ls w' ro v m:=h.on (ro':=ro) k.any (fun _ h=>h)
theorem Ls.shape {w:World} {ro:Nat→Prop} {v:Value} {m:UInt8} (h:Ls w ro v m): ∃ad n c,v= .slice ad n c:=by
 obtain⟨n,-,h2,-⟩:=h
 obtain⟨ad,cap,hv,-⟩:=h2.shape
 exact⟨ad,_,cap,hv⟩
theorem Ls.full {w:World} {ro:Nat→Prop} {v:Value} {m:UInt8} (h:Ls w ro v m):Calls Tryz.prog 64 #[v,.int .u8 m.toNat] w fun r w'=>r= .returned (.bool true)∧Kp no w w':=by
 obtain⟨n,h1,h2,-⟩:=h
 exact fullBytes_any h2 (by omega)

theorem looks_any {w:World} {X:Nat→Prop} {wb:Nat} {n:Int} {mv bv:Value} {mods:List Md} {cnt:Nat} (h:LwSt w X wb n mv bv mods cnt) (hc:cnt≤1000000000):
  Calls Tryz.prog 44 #[.pointer (some ⟨wb,3,none⟩)] w fun r w'=>r= .returned (.bool true)∧Kp no w w':=by
 obtain⟨cells,hown,hrow⟩:=h.bown
 obtain⟨adB,capB,rfl⟩:=own_shape hown
 have HB:=hide h.blk
 have HO:=hide hown
 have HR:=hide hrow
 clear h hown hrow
 go_enter Tryz.func44,Tryz.ntmps44
 go_wp2_with fail
 go_loopw [3,4,5,6,7,8,9] (fun o i _ _ _ _ _ wr=> ∃k:Nat,k≤cnt∧o= .bool true∧i= .int .i64 k∧Kp no w wr) (fun _ i _ _ _ _ _ _=>cnt - (intOf i).toNat)
 case atStart=>exact⟨0,by omega,rfl,rfl,Kp.refl _ _⟩
 case round=>
  obtain⟨k,hk,rfl,rfl,hkp⟩:=hrel
  have HK:=hide hkp
  obtain⟨hcw,-⟩:=cells_of (hkp.blk HB.out (fun h=>h))
  clear hkp
  by_cases hlt:k<cnt
  ·obtain⟨l,a,b,c,m,e0,e1,e2,e3,e4,h0,h1,h2,h3⟩:=HR.out k hlt
   obtain⟨aB,oB,cB,hv,-,q0⟩:=(RowAt.own HO.out).get e0
   obtain⟨_,_,_,hv1,-,q1⟩:=(RowAt.own HO.out).get e1
   obtain⟨_,_,_,hv2,-,q2⟩:=(RowAt.own HO.out).get e2
   obtain⟨_,_,_,hv3,-,q3⟩:=(RowAt.own HO.out).get e3
   obtain⟨_,_,_,hv4,-,q4⟩:=(RowAt.own HO.out).get e4
   cases hv
   cases hv1
   cases hv2
   cases hv3
   cases hv4
   obtain⟨al,nl,cl,rfl⟩:=h0.shape
   obtain⟨aa,na,ca,rfl⟩:=h1.shape
   obtain⟨ab,nb,cb,rfl⟩:=h2.shape
   obtain⟨ac,nc,cc,rfl⟩:=h3.shape
   rw[←Nat.add_assoc]at q1 q2 q3 q4
   replace q0:=HK.out.allCells q0
   replace q1:=HK.out.allCells q1
   replace q2:=HK.out.allCells q2
   replace q3:=HK.out.allCells q3
   replace q4:=HK.out.allCells q4
   have H0:=hide h0
   have H1:=hide h1
   have H2:=hide h2
   have H3:=hide h3
   clear h0 h1 h2 h3 e0 e1 e2 e3 e4
   go_wp2_with fail
   have k1:Kp no w (wr.alloc (.cells #[.slice al nl cl,.slice aa na ca,.slice ab nb cb,.slice ac nc cc,.int .u8 m.toNat] 158)):=HK.out.alloc _
   have hx:=heap_alloc_new wr (.cells #[.slice al nl cl,.slice aa na ca,.slice ab nb cb,.slice ac nc cc,.int .u8 m.toNat] 158)
   generalize wr.alloc (.cells #[.slice al nl cl,.slice aa na ca,.slice ab nb cb,.slice ac nc cc,.int .u8 m.toNat] 158)=w1 at *
   have HX:=hide hx
   have K1:=hide k1
   clear k1 hx q0 q1 q2 q3 q4 hcw
   refine((H0.out.kp K1.out).full).mono ?_
   rintro r w2 ⟨rfl,k2⟩
   have HX2:=hide (k2.blk HX.out (fun h=>h))
   have K2:=hide (K1.out.trans k2)
   obtain⟨hc2,-⟩:=cells_of HX2.out
   clear k2
   go_wp2_with fail
   refine((H1.out.kp K2.out).full).mono ?_
   rintro r w3 ⟨rfl,k3⟩
   have HX3:=hide (k3.blk HX2.out (fun h=>h))
   have K3:=hide (K2.out.trans k3)
   obtain⟨hc3,-⟩:=cells_of HX3.out
   clear k3 hc2
   go_wp2_with fail
   refine((H2.out.kp K3.out).full).mono ?_
   rintro r w4 ⟨rfl,k4⟩
   have HX4:=hide (k4.blk HX3.out (fun h=>h))
   have K4:=hide (K3.out.trans k4)
   obtain⟨hc4,-⟩:=cells_of HX4.out
   clear k4 hc3
   go_wp2_with fail
   refine((H3.out.kp K4.out).full).mono ?_
   rintro r w5 ⟨rfl,k5⟩
   have K5:=hide (K4.out.trans k5)
   clear k5 hc4
   go_wp2_with fail
   go_roundw
   case rel=>exact⟨k+1,by omega,rfl,by go_num,K5.out⟩
   case measure=>simp[intOf];omega
  ·go_wp2_with fail
   go_loopw [3,10,11,12,13,14,15] (fun o i _ _ _ _ _ wr=>o= .bool true∧i= .int .i64 0∧Kp no w wr) (fun _ _ _ _ _ _ _ _=>0)
   case atStart=>exact⟨rfl,rfl,HK.out⟩
   case round=>
    obtain⟨rfl,rfl,hkp⟩:=hrel
    clear HK hcw
    have HK:=hide hkp
    obtain⟨hcw,-⟩:=cells_of (hkp.blk HB.out (fun h=>h))
    clear hkp
    go_wp2_with fail
    go_loopw [3,16,17,18,19,20,21] (fun o i _ _ _ _ _ wr=>o= .bool true∧i= .int .i64 0∧Kp no w wr) (fun _ _ _ _ _ _ _ _=>0)
    case atStart=>exact⟨rfl,rfl,HK.out⟩
    case round=>
     obtain⟨rfl,rfl,hkp⟩:=hrel
     clear HK hcw
     have HK:=hide hkp
     obtain⟨hcw,-⟩:=cells_of (hkp.blk HB.out (fun h=>h))
     clear hkp
     go_wp2_with fail
     go_ret
     exact⟨rfl,HK.out⟩
end Go.Proofs.YtdeplgkhmebalaaGreatDoor

set_option linter.unusedSimpArgs false
set_option linter.unusedVariables false
set_option maxHeartbeats 4000000
set_option maxRecDepth 100000
namespace Go.Proofs.YtdeplgkhmebalaaGreatDoor
open Go.RowKit

theorem info_module: ∃i z,Tryz.prog.info? 144=some i∧i.zero=some z∧i.size=2∧i.bytes=16∧z.cells.size=2:=Rf.info_of (by kernel_rfl)

theorem MRow.snoc {w:World} {ro:Nat→Prop} {mods:List Md} {cells:List Value} {x:Md} (h:MRow w ro mods cells) (hl:cells.length=mods.length*2) (hx:ModAt w ro x.x 123 x.f) (hy:YAt w ro x.y (x.f.funcs.map (·.typ))):MRow w ro (mods++[x]) (cells++[ptrTo x.x,ptrTo x.y]):=by
 intro j y hj
 rcases Nat.lt_trichotomy j mods.length with hlt|he|hgt
 ·rw[List.getElem?_append_left hlt]at hj
  obtain⟨q1,q2,q3⟩:=h j y hj
  obtain⟨z1,-⟩:=List.getElem?_eq_some_iff.1 q1
  obtain⟨z2,-⟩:=List.getElem?_eq_some_iff.1 q2
  exact⟨by rw[List.getElem?_append_left z1];exact q1,by rw[List.getElem?_append_left z2];exact q2,q3⟩
 ·subst he
  rw[List.getElem?_append_right (Nat.le_refl _),Nat.sub_self]at hj
  cases hj
  exact⟨by rw[List.getElem?_append_right (by omega),show mods.length*2 -cells.length=0 by omega];rfl,by rw[List.getElem?_append_right (by omega),show mods.length*2+1 -cells.length=1 by omega];rfl,hx,hy⟩
 ·rw[List.getElem?_append_right (by omega),List.getElem?_eq_none (by simp;omega)]at hj
  cases hj
theorem LwSt.addM {w w':World} {X:Nat→Prop} {wb:Nat} {n:Int} {mv mv' bv:Value} {mods:List Md} {cnt:Nat} (h:LwSt w X wb n mv bv mods cnt) {cells:List Value} {x:Md} (k:Kp (fun b=>b=wb∨mv.ownBlock=some b) w w')
  (hb:w'.heap[wb]? =some (.cells #[mv',.slice none 0 0,.slice none 0 0,.int .i64 n,bv,.slice none 0 0,.slice none 0 0,.bool false] 90)) (hl:cells.length=mods.length*2) (hr:MRow w (RO w X wb mv bv) mods cells)
  (ho:w'.ownsRow (wb+1) 144 2 mv' (mods.length+1) (cells++[ptrTo x.x,ptrTo x.y])) (hat:Mv w mv mv') (hx:ModAt w (RO w X wb mv bv) x.x 123 x.f) (hy:YAt w (RO w X wb mv bv) x.y (x.f.funcs.map (·.typ))) (hok:MdOk x) (h4:mods.length+1≤4):LwSt w' X wb n mv' bv (mods++[x]) cnt:=by
 obtain⟨c1,o1,-⟩:=h.mown
 obtain⟨c2,o2,r2⟩:=h.bown
 have kR:Kp (nro (RO w X wb mv bv)) w w':=k.mono (fun b _ h hn=>by
  rcases h with h|h
  ·exact hn.2.1 h
  ·exact hn.2.2.1 h)
 have hR:=RO.on (w:=w) (w':=w') (X:=X) (X':=X) (wb:=wb) (mv:=mv) (bv:=bv) (mv':=mv') (bv':=bv) k.size hat (.inl rfl) (fun b h=> .inl h)
 refine⟨hb,h.tab.on kR hR,⟨_,by rw[List.length_append];exact ho,(hr.snoc hl hx hy).on kR hR⟩,?_,by rw[List.length_append];exact h4,⟨c2,k.own o2 (fun b hb e=> ?_),r2.on kR hR⟩,fun b hb e=> ?_,h.n0⟩
 ·intro y hy
  rcases List.mem_append.1 hy with hy|hy
  ·exact h.mok y hy
  ·rw[List.mem_singleton]at hy;rw[hy];exact hok
 ·rcases e with e|e
  ·have :=own_new o2 b hb;omega
  ·exact h.dis b e hb
 ·exact hat.ne (o2.lt b e).2 (fun hm=>h.dis b hm e) hb

theorem loaded_any {w:World} {wb:Nat} {n:Int} {mv bv sv:Value} {mods:List Md} {cnt:Nat} (h:LwSt w no wb n mv bv mods cnt) {data:List UInt8} (hs:Rf.BytesOk w sv data) (hsl: ∀b,Rf.bvB sv data=some b→b<w.heap.size) (hd:data.length≤2000000):
  Calls Tryz.prog 57 #[ptrTo wb,sv] w fun r w'=>r= .returned (.bool true)∧ ∃mv' mods',LwSt w' no wb n mv' bv mods' cnt∧(∀f,loadM data= .ok f→mods.length<4→ ∃x,x.f=f∧mods'=mods++[x])∧mods.length≤mods'.length∧Kp (fun b=>b=wb∨mv.ownBlock=some b) w w':=by
 have hag:=read_agree (E:=Rf.rdE data sv) rfl
 obtain⟨ads,caps,rfl,hcap⟩:=hs.shape
 have H:=hide h
 have HS:=hide hs
 have HSl:=hide hsl
 have HAg:=hide hag
 have hwb:=lt_of_blk h.blk
 clear h hs hsl hag
 go_enter Tryz.func57,Tryz.ntmps57
 go_wp2_with fail
 refine(lent_any HS.out hd).mono ?_
 rintro r w1 ⟨⟨rfl,cur,hg1,hcur⟩,k1⟩
 have hcell: ∀q,q<data.length→w1.cell? ⟨w.heap.size,0+q,none⟩=some (.int .u8 (data.getD q 0).toNat):=fun q hq=>by
  rw[Nat.zero_add,(cells_of hg1).1,←Array.getElem?_toList,hcur,List.getElem?_map,List.getElem?_append_left hq,List.getElem?_eq_getElem hq,List.getD_eq_getElem?_getD,List.getElem?_eq_getElem hq]
  rfl
 have hb1:BytesAt w1 (.slice (some ⟨w.heap.size,0,none⟩) data.length (data.length+2)) data:=BytesAt.mk (by omega) hcell
 have HB1:=hide hb1
 have HG1:=hide hg1
 have HCur:=hide hcur
 have K1:=hide k1
 have hlt1:=lt_of_blk hg1
 have H1:=hide (H.out.kp (X':=no) k1 (fun b h=>h.elim))
 clear hcell hb1 hg1 hcur k1
 go_wp2_with fail
 have hld:=load_all HB1.out (fun b hb=>by cases hb;exact hlt1) H1.out.rowsOk
 have hag:=HAg.out
 cases hM:loadM data with
 |error ea=>
  obtain⟨e,a⟩:=ea
  rw[hM]at hld hag
  have HMM:=hide hM
  have HLd:=hide hld
  have HR:Hid (Rf.readR (Rf.rdE data (.slice ads data.length caps))= .error (e,a)):=hide hag
  clear hld hag hM
  refine HLd.out.mono ?_
  rintro r w2 ⟨hdone,k2⟩
  have hd2:r= .returned (.tuple #[.pointer none,.int .i64 e,.int .i64 a]):=hdone
  subst hd2
  clear hdone
  have hg2:=k2.blk HG1.out (fun h=>h)
  have hs2:=HS.out.kp (K1.out.trans k2) (fun _ _ h=>h)
  have HG2:=hide hg2
  have HS2:=hide hs2
  have K12:=hide (K1.out.trans k2)
  have hz2:=k2.size
  have K2:=hide k2
  clear hg2 hs2 k2
  go_wp2_with fail
  refine(back_any hd HG2.out HCur.out HS2.out (fun e=>by have :=HSl.out _ e;omega)).mono ?_
  rintro r w3 ⟨rfl,k3⟩
  have k03:Kp no w w3:=K12.out.comp k3 (fun _ _ h=>h) (fun b hb e=>by unfold one at e;omega)
  have hs3:=HS.out.kp k03 (fun _ _ h=>h)
  have HS3:=hide hs3
  have K03:=hide k03
  have K3:=hide k3
  have hz3:=k3.size
  have hz03:=k03.size
  clear hs3 k03 k3
  go_wp2_with fail
  refine(Rf.read_any HS3.out (fun b hb=>by have :=HSl.out b hb;omega)).mono ?_
  rintro r w4 ⟨k4,hread⟩
  rw[HR.out]at hread
  rcases hread with⟨e',a',h1,he,rfl⟩|⟨ts,fs,gs,pages,pb,mb,base,tv,fv,gv,h1,-⟩
  ·cases h1
   have hne:(e !=0)=true:=by simpa using he
   have heq:(e==0)=false:=by simpa using he
   have K4:=hide (K03.out.trans k4)
   have HF:=hide (H.out.kp (X':=no) K4.out (fun b h=>h.elim))
   clear k4 he
   go_wp2_with fail
   go_ret
   exact⟨rfl,mv,mods,HF.out,(fun f hf=>by rw[HMM.out]at hf;cases hf),Nat.le_refl _,K4.out.any⟩
  ·cases h1
 |ok f=>
  rw[hM]at hld hag
  obtain⟨ts0,gs0,hag1,-⟩:=hag
  have HMM:=hide hM
  have HLd:=hide hld
  have HR:=hide hag1
  clear hld hag1 hM
  refine HLd.out.mono ?_
  rintro r w2 ⟨hdone,k2⟩
  obtain⟨mb,hr,hmod⟩:=hdone
  subst hr
  have HMod:=hide hmod
  clear hmod
  have hg2:=k2.blk HG1.out (fun h=>h)
  have hs2:=HS.out.kp (K1.out.trans k2) (fun _ _ h=>h)
  have HG2:=hide hg2
  have HS2:=hide hs2
  have K12:=hide (K1.out.trans k2)
  have hz2:=k2.size
  have K2:=hide k2
  clear hg2 hs2 k2
  go_wp2_with fail
  refine(back_any hd HG2.out HCur.out HS2.out (fun e=>by have :=HSl.out _ e;omega)).mono ?_
  rintro r w3 ⟨rfl,k3⟩
  have k03:Kp no w w3:=K12.out.comp k3 (fun _ _ h=>h) (fun b hb e=>by unfold one at e;omega)
  have hs3:=HS.out.kp k03 (fun _ _ h=>h)
  have HS3:=hide hs3
  have K03:=hide k03
  have K3:=hide k3
  have hz3:=k3.size
  have hz03:=k03.size
  clear hs3 k03 k3
  go_wp2_with fail
  refine(Rf.read_any HS3.out (fun b hb=>by have :=HSl.out b hb;omega)).mono ?_
  rintro r w4 ⟨k4,hread⟩
  rw[HR.out]at hread
  rcases hread with⟨e',a',h1,-⟩|⟨ts,fs,gs,pages,pb,yb,base,tv,fv,gv,h1,hr,hymod,hyb,hbase⟩
  ·cases h1
  ·cases h1
   subst hr
   have K4:=hide (K03.out.trans k4)
   have hz4:=k4.size
   have HF:=hide (H.out.kp (X':=no) K4.out (fun b h=>h.elim))
   have HY:=hide (YAt.read hymod hyb hbase)
   have hok:MdOk ⟨mb,yb,f⟩:=⟨by have :=hymod.funL;rw[List.length_map]at this;exact this,hymod.funLL⟩
   obtain⟨hcw,hfw⟩:=cells_of HF.out.blk
   obtain⟨cs,hown,hrow⟩:=HF.out.mown
   obtain⟨adM,capM,hvM⟩:=own_shape hown
   have hrO: ∀b,(w1.heap.size≤b∧b<w2.heap.size)∨(w3.heap.size≤b∧b<w4.heap.size)→RO w4 no wb mv bv b:=fun b hb=>by
    obtain⟨c2,o2,-⟩:=H.out.bown
    obtain⟨c1,o1,-⟩:=H.out.mown
    have hb':w.heap.size≤b∧b<w4.heap.size:=by omega
    exact⟨hb'.2,by omega,fun e=>by have :=(o1.lt b e).2;omega,fun e=>by have :=(o2.lt b e).2;omega,fun h=>h⟩
   have hM4:ModAt w4 (RO w4 no wb mv bv) mb 123 f:=by
    have kk:Kp (nro (made w1 w2)) w2 w4:=(K3.out.mono (fun b _ e hn=>by unfold one at e;have :=hn.1;omega)).trans (k4.any)
    exact(HMod.out.kp kk).le' (fun b hb=>hrO b (.inl hb))
   have hY4:YAt w4 (RO w4 no wb mv bv) yb (f.funcs.map (·.typ)):=HY.out.le (fun b hb=>hrO b (.inr hb))
   have HM4:=hide hM4
   have HY4:=hide hY4
   have HOwn:=hide hown
   have HRow:=hide hrow
   have hcl:=hown.1
   have hml:=HF.out.ml
   subst hvM
   clear k4 hymod hrO hM4 hY4 hown hrow
   obtain⟨j1,z1,hj1,hy0,hy1,hy2,hy3⟩:=info_module
   by_cases h4:mods.length<4
   ·go_wp2_with(at_builtin;refine wpList_append_at _ rfl _ _ 81 rfl (wb+1) 144 j1 z1 2 16 Tryz.underlying81 hj1 hy0 hy1 hy2 hy3 (by decide) _ _ _ rfl (HOwn.out.alloc _) _ 1 [ptrTo mb,ptrTo yb] rfl (Rf.RowAt.newRow _ #[ptrTo mb,ptrTo yb] _) ?m2 ?m3 ?m4 ?m5 ?_)
    case m2=>intro u hu;simp at hu;rcases hu with rfl |rfl <;>rfl
    case m3=>unfold maxLen;omega
    case m4=>omega
    case m5=>simp;omega
    intro v5 w5 hown5 hgrow5 hat5
    have k45:Kp (fun b=>(Value.slice adM mods.length capM).ownBlock=some b) w4 w5:=((Kp.refl _ w4).alloc _).grown hgrow5 (fun b hb=> .inl hb)
    have hmne:(Value.slice adM mods.length capM).ownBlock≠some wb:=fun e=>by have :=own_new HOwn.out wb e;omega
    obtain⟨ad5,cap5,rfl⟩:=own_shape hown5
    have hb5:=k45.blk HF.out.blk hmne
    obtain⟨hcw5,hfw5⟩:=cells_of hb5
    have HB5:=hide hb5
    have HO5:=hide hown5
    have K45:=hide k45
    have HA5:=hide hat5
    clear hb5 hown5 k45 hat5 hgrow5 hcw hfw
    go_wp2_with fail
    go_ret
    have kF:Kp (fun b=>b=wb∨(Value.slice adM mods.length capM).ownBlock=some b) w4 (w5.setCell ⟨wb,0,none⟩ (.slice ad5 (mods.length+1) cap5)):=(K45.out.mono (fun b _ h=> .inr h)).setAt (.inl rfl) _ _
    have hbF:=heap_setCell (o:=0) HB5.out (.slice ad5 (mods.length+1) cap5)
    have hoF:=((Kp.refl (one wb) w5).set1 0 (.slice ad5 (mods.length+1) cap5)).own HO5.out (fun b hb e=>by have :=own_new HO5.out b hb;unfold one at e;omega)
    have hst:=HF.out.addM (x:=⟨mb,yb,f⟩) kF hbF hcl HRow.out hoF (by rcases HA5.out with e|e;exact .inl e;exact .inr ⟨_,e,by simp⟩) HM4.out HY4.out hok (by omega)
    exact⟨rfl,_,_,hst,fun f' hf' _=>⟨⟨mb,yb,f⟩,by rw[HMM.out]at hf';cases hf';rfl,rfl⟩,by simp,(K4.out.any).trans kF⟩
   ·go_wp2_with fail
    go_ret
    exact⟨rfl,_,mods,HF.out,fun f' _ h=>absurd h h4,Nat.le_refl _,K4.out.any⟩
end Go.Proofs.YtdeplgkhmebalaaGreatDoor

set_option linter.unusedSimpArgs false
set_option linter.unusedVariables false
set_option maxHeartbeats 4000000
set_option maxRecDepth 100000
namespace Go.Proofs.YtdeplgkhmebalaaGreatDoor
open Go.RowKit

theorem own_b {g o n c b:Nat} (h:(Value.slice (some ⟨g,o,none⟩) n c).ownBlock=some b):b=g:=(Option.some.inj h).symm

theorem type_err {w:World} {ro:Nat→Prop} {mb:Nat} {f:Flat} {n:Int} (h:ModAt w ro mb 123 f) (hn:n<0∨(f.funcs.length:Int)≤n):
  Calls Tryz.prog 41 #[ptrTo mb,.int .i64 n] w fun r w'=>r= .returned (.tuple #[.slice none 0 0,.slice none 0 0,.int .i64 4])∧Kp no w w':=by
 have hfn:=funcs_any h
 have HFn:=hide hfn
 clear h hfn
 by_cases h0:n<0
 ·clear hn
  go_enter Tryz.func41,Tryz.ntmps41
  go_wp2_with fail
  go_ret3
  exact⟨rfl,Kp.refl _ _⟩
 ·have h1:(f.funcs.length:Int)≤n:=by omega
  clear hn
  go_enter Tryz.func41,Tryz.ntmps41
  go_wp2_with fail
  refine HFn.out.mono ?_
  rintro r w1 ⟨rfl,hw⟩
  rw[hw]
  clear hw w1 HFn
  go_wp2_with fail
  go_ret3
  exact⟨rfl,Kp.refl _ _⟩

theorem typed_any {w:World} {wb:Nat} {n:Int} {mv bv:Value} {mods:List Md} {cnt:Nat} (h:LwSt w no wb n mv bv mods cnt) {x:Md} (hx:ModAt w (RO w no wb mv bv) x.x 123 x.f) (hy:YAt w (RO w no wb mv bv) x.y (x.f.funcs.map (·.typ))) (hok:MdOk x) (f:Int) (hc:cnt≤100000000):
  Calls Tryz.prog 59 #[ptrTo wb,.agg #[ptrTo x.x,ptrTo x.y],.int .i64 f] w fun r w'=>r= .returned (.bool true)∧ ∃n' bv',LwSt w' no wb n' mv bv' mods (cnt+2)∧Kp (fun b=>b=wb∨bv.ownBlock=some b) w w':=by
 obtain⟨tv,fv,gv,pages,cells,yblk,yro,yrv,yrow,yall⟩:=hy
 obtain⟨adF,capF,hvF,-⟩:=RowAt.shape yrow
 subst hvF
 rw[List.length_map]at yblk yrv yrow
 have H:=hide h
 have HM:=hide hx
 have HYB:=hide yblk
 have HYR:=hide yrow
 have HYA:=hide yall
 have hn16:=hok.n
 have hwb:=lt_of_blk h.blk
 clear h hx yblk yrow yall yrv yro
 go_enter Tryz.func59,Tryz.ntmps59
 go_wp2_with fail
 have k1:Kp no w (w.alloc (.cells #[ptrTo x.x,ptrTo x.y] 144)):=(Kp.refl _ _).alloc _
 have ht1:=heap_alloc_new w (.cells #[ptrTo x.x,ptrTo x.y] 144)
 generalize w.alloc (.cells #[ptrTo x.x,ptrTo x.y] 144)=w1 at *
 have HT1:=hide ht1
 have K1:=hide k1
 have hz1:=lt_of_blk ht1
 have HM1:=hide (HM.out.kp (k1.any:Kp (nro (RO w no wb mv bv)) w w1))
 clear ht1 k1
 by_cases hin:0≤f∧f<(x.f.funcs.length:Int)
 ·obtain⟨hf0,hf1⟩:=hin
  obtain⟨q,rfl⟩:=Int.eq_ofNat_of_zero_le hf0
  have hq:q<x.f.funcs.length:=by omega
  obtain⟨fn,hfn⟩: ∃fn,x.f.funcs[q]? =some fn:=⟨_,List.getElem?_eq_getElem hq⟩
  have hgd:x.f.funcs.getD q fn0=fn:=by rw[List.getD_eq_getElem?_getD,hfn];rfl
  have htq:(x.f.funcs.map (·.typ))[q]? =some fn.typ:=by rw[List.getElem?_map,hfn];rfl
  obtain⟨hl1,hl2⟩:=hok.l fn.typ (List.mem_of_getElem? htq)
  obtain⟨pv,rv,e0,e1,hb0,-,hb1,-⟩:=HYA.out q fn.typ htq
  obtain⟨aF,oF,cF,hv,-,c0⟩:=HYR.out.get e0
  obtain⟨_,_,_,hv',-,c1⟩:=HYR.out.get e1
  cases hv
  cases hv'
  rw[←Nat.add_assoc]at c1
  have HB0:=hide hb0
  have HB1:=hide hb1
  have HC0:=hide c0
  have HC1:=hide c1
  obtain⟨ap,cp,rfl,-⟩:=hb0.shape
  obtain⟨ar,cr,rfl,-⟩:=hb1.shape
  have hty:=type_any HM1.out hq (by omega) (by rw[hgd];omega) (by rw[hgd];omega)
  rw[hgd]at hty
  have HTy:=hide hty
  clear hty hgd htq hfn e0 e1 hb0 hb1 c0 c1
  refine HTy.out.mono ?_
  rintro r w2 ⟨⟨g1,g2,rfl,hg1,hg2,hn1,hn2⟩,k2⟩
  have K2:=hide (K1.out.trans k2)
  have HN1:=hide hn1
  have HN2:=hide hn2
  have hlt2:=NB.lt hn2 g2 rfl
  have hT2:=k2.blk HT1.out (fun h=>h)
  obtain⟨hct,-⟩:=cells_of hT2
  obtain⟨hcy,-⟩:=cells_of (K2.out.blk HYB.out (fun h=>h))
  have hx0:=K2.out.allCells HC0.out
  have hx1:=K2.out.allCells HC1.out
  have HT2:=hide hT2
  have hz2:=k2.size
  clear hn1 hn2 hT2 k2
  go_wp2_with fail
  refine(sameBytes_any (NB.at HN1.out) (HB0.out.kp K2.out (fun _ _ h=>h)) (by omega)).mono ?_
  rintro r w3 ⟨rfl,k3⟩
  have hd1:decide (fn.typ.1=fn.typ.1)=true:=by simp
  rw[hd1]
  have K3:=hide (K2.out.trans k3)
  have hT3:=k3.blk HT2.out (fun h=>h)
  have HN13:Hid (NB w1 w3 (.slice (some ⟨g1,0,none⟩) fn.typ.1.length fn.typ.1.length) fn.typ.1):=hide (k3.own HN1.out (fun _ _ h=>h))
  have HN23:Hid (NB w1 w3 (.slice (some ⟨g2,0,none⟩) fn.typ.2.length fn.typ.2.length) fn.typ.2):=hide (k3.own HN2.out (fun _ _ h=>h))
  have hz3:=k3.size
  have HT3:=hide hT3
  clear hct hcy hx0 hx1 k3
  obtain⟨hct,-⟩:=cells_of hT3
  obtain⟨hcy,-⟩:=cells_of (K3.out.blk HYB.out (fun h=>h))
  have hx0:=K3.out.allCells HC0.out
  have hx1:=K3.out.allCells HC1.out
  clear hT3
  go_wp2_with fail
  refine(sameBytes_any (NB.at HN23.out) (HB1.out.kp K3.out (fun _ _ h=>h)) (by omega)).mono ?_
  rintro r w4 ⟨rfl,k4⟩
  have hd2:decide (fn.typ.2=fn.typ.2)=true:=by simp
  rw[hd2]
  have K4:=hide (K3.out.trans k4)
  have HN14:Hid (NB w1 w4 (.slice (some ⟨g1,0,none⟩) fn.typ.1.length fn.typ.1.length) fn.typ.1):=hide (k4.own HN13.out (fun _ _ h=>h))
  have HN24:Hid (NB w1 w4 (.slice (some ⟨g2,0,none⟩) fn.typ.2.length fn.typ.2.length) fn.typ.2):=hide (k4.own HN23.out (fun _ _ h=>h))
  have hz4:=k4.size
  have HL4:=hide (H.out.kp (X':=fun b=>b=g1∨b=g2) K4.out (fun b h=> .inr (by omega)))
  obtain⟨c1,o1,-⟩:=H.out.mown
  obtain⟨c2,o2,-⟩:=H.out.bown
  have hmlt: ∀b,mv.ownBlock=some b→b<w.heap.size:=fun b hb=>(o1.lt b hb).2
  have hblt: ∀b,bv.ownBlock=some b→b<w.heap.size:=fun b hb=>(o2.lt b hb).2
  have HBl:=hide hblt
  have HMl:=hide hmlt
  clear k4 hct hcy hx0 hx1 hblt hmlt o1 o2
  obtain⟨hcw,-⟩:=cells_of HL4.out.blk
  go_wp2_with fail
  refine(bytes_any HL4.out (own_le HN14.out (by omega)) (.inr ⟨g1,rfl⟩) (by omega) (fun b hb=>by obtain rfl :=own_b hb;exact⟨.inl rfl,fun e=>by have :=HMl.out _ e;omega,fun e=>by have :=HBl.out _ e;omega⟩) (by omega) (fun b hb=>by omega)).mono ?_
  rintro r w5 ⟨rfl,n5,bv5,h5,hmv5,k5⟩
  have HL5:=hide h5
  have HN25:=hide (k5.own HN24.out (fun b hb e=>by
   obtain rfl :=own_b hb
   rcases e with e|e|e
   ·omega
   ·have :=HBl.out _ e;omega
   ·have :=own_b e;omega))
  have HMv5:=hide hmv5
  have K5:=hide k5
  have hz5:=k5.size
  obtain⟨hcw5,-⟩:=cells_of h5.blk
  clear h5 hmv5 k5 hcw
  go_wp2_with fail
  refine(bytes_any HL5.out (own_le HN25.out (by omega)) (.inr ⟨g2,rfl⟩) (by omega) (fun b hb=>by obtain rfl :=own_b hb;exact⟨⟨.inr rfl,fun e=>by have :=own_b e;omega⟩,fun e=>by have :=HMl.out _ e;omega,HMv5.out.ne (by omega) (fun e=>by have :=HBl.out _ e;omega)⟩) (by omega) (fun b hb=>by have :=hb.1;omega)).mono ?_
  rintro r w6 ⟨rfl,n6,bv6,h6,hmv6,k6⟩
  have HL6:=hide (h6.kp (X':=no) (Kp.refl no _) (fun b h=>h.elim))
  have HMv6:=hide hmv6
  have K6:=hide k6
  clear h6 hmv6 k6 hcw5
  go_wp2_with fail
  go_ret
  refine⟨rfl,n6,bv6,HL6.out,?_⟩
  refine(K4.out.comp K5.out (S:=fun b=>b=wb∨bv.ownBlock=some b) (fun _ _ h=>h.elim) (fun b hb h=> ?_)).comp K6.out (fun _ _ h=>h) (fun b hb h=> ?_)
  ·rcases h with h|h|h
   ·exact .inl h
   ·exact .inr h
   ·have :=own_b h;omega
  ·rcases h with h|h|h
   ·exact .inl h
   ·rcases HMv5.out with e|⟨c,e,hlt⟩
    ·exact .inr (e▸h)
    ·rw[e]at h;cases h;omega
   ·have :=own_b h;omega
 ·have hout:f<0∨(x.f.funcs.length:Int)≤f:=by omega
  have hte:=type_err HM1.out hout
  have HTy:=hide hte
  have HB1:=hide ((K1.out).blk HYB.out (fun h=>h))
  clear hte
  refine HTy.out.mono ?_
  rintro r w2 ⟨rfl,k2⟩
  have K2:=hide (K1.out.trans k2)
  obtain⟨hct,-⟩:=cells_of (k2.blk HT1.out (fun h=>h))
  obtain⟨hcy,-⟩:=cells_of (K2.out.blk HYB.out (fun h=>h))
  have HL2:=hide (H.out.kp (X':=no) K2.out (fun b h=>h.elim))
  obtain⟨hcw,-⟩:=cells_of HL2.out.blk
  clear k2
  by_cases hneg:f<0
  ·clear hin hout
   go_wp2_with fail
   refine(bytes_any (l0:=[]) HL2.out (World.ownsRow_nil _ _ _ _) (.inl rfl) (by simp) (fun b hb=>by cases hb) (by omega) (fun b hb=>hb.elim)).mono ?_
   rintro r w5 ⟨rfl,n5,bv5,h5,hmv5,k5⟩
   have HL5:=hide (h5.kp (X':=no) (Kp.refl no _) (fun b h=>h.elim))
   have HMv5:=hide hmv5
   have K5:=hide k5
   obtain⟨hcw5,-⟩:=cells_of h5.blk
   have hz2:=K2.out.size
   clear h5 hmv5 k5 hcw
   go_wp2_with fail
   refine(bytes_any (l0:=[]) HL5.out (World.ownsRow_nil _ _ _ _) (.inl rfl) (by simp) (fun b hb=>by cases hb) (by omega) (fun b hb=>hb.elim)).mono ?_
   rintro r w6 ⟨rfl,n6,bv6,h6,hmv6,k6⟩
   have HL6:=hide (h6.kp (X':=no) (Kp.refl no _) (fun b h=>h.elim))
   have K6:=hide k6
   clear h6 hmv6 k6 hcw5
   go_wp2_with fail
   go_ret
   refine⟨rfl,n6,bv6,HL6.out,?_⟩
   refine(K2.out.comp K5.out (S:=fun b=>b=wb∨bv.ownBlock=some b) (fun _ _ h=>h.elim) (fun b hb h=> ?_)).comp K6.out (fun _ _ h=>h) (fun b hb h=> ?_)
   ·rcases h with h|h|h
    ·exact .inl h
    ·exact .inr h
    ·cases h
   ·rcases h with h|h|h
    ·exact .inl h
    ·rcases HMv5.out with e|⟨c,e,hlt⟩
     ·exact .inr (e▸h)
     ·rw[e]at h;cases h;omega
    ·cases h
  ·have hge:(x.f.funcs.length:Int)≤f:=by omega
   clear hin hout
   go_wp2_with fail
   refine(bytes_any (l0:=[]) HL2.out (World.ownsRow_nil _ _ _ _) (.inl rfl) (by simp) (fun b hb=>by cases hb) (by omega) (fun b hb=>hb.elim)).mono ?_
   rintro r w5 ⟨rfl,n5,bv5,h5,hmv5,k5⟩
   have HL5:=hide (h5.kp (X':=no) (Kp.refl no _) (fun b h=>h.elim))
   have HMv5:=hide hmv5
   have K5:=hide k5
   obtain⟨hcw5,-⟩:=cells_of h5.blk
   have hz2:=K2.out.size
   clear h5 hmv5 k5 hcw
   go_wp2_with fail
   refine(bytes_any (l0:=[]) HL5.out (World.ownsRow_nil _ _ _ _) (.inl rfl) (by simp) (fun b hb=>by cases hb) (by omega) (fun b hb=>hb.elim)).mono ?_
   rintro r w6 ⟨rfl,n6,bv6,h6,hmv6,k6⟩
   have HL6:=hide (h6.kp (X':=no) (Kp.refl no _) (fun b h=>h.elim))
   have K6:=hide k6
   clear h6 hmv6 k6 hcw5
   go_wp2_with fail
   go_ret
   refine⟨rfl,n6,bv6,HL6.out,?_⟩
   refine(K2.out.comp K5.out (S:=fun b=>b=wb∨bv.ownBlock=some b) (fun _ _ h=>h.elim) (fun b hb h=> ?_)).comp K6.out (fun _ _ h=>h) (fun b hb h=> ?_)
   ·rcases h with h|h|h
    ·exact .inl h
    ·exact .inr h
    ·cases h
   ·rcases h with h|h|h
    ·exact .inl h
    ·rcases HMv5.out with e|⟨c,e,hlt⟩
     ·exact .inr (e▸h)
     ·rw[e]at h;cases h;omega
    ·cases h
end Go.Proofs.YtdeplgkhmebalaaGreatDoor

set_option linter.unusedSimpArgs false
set_option linter.unusedVariables false
set_option maxHeartbeats 4000000
set_option maxRecDepth 100000
namespace Go.Proofs.YtdeplgkhmebalaaGreatDoor
open Go.RowKit

theorem pick_fix {c:Int} (h1: -9223372036854775808≤c) (h2:c≤9223372036854775807) {n:Nat} (hn:0<n) (hn2:n≤1000):
  ∃k:Nat,k<n∧ ∀w:World,Calls Tryz.prog 58 #[.int .i64 c,.int .i64 n] w fun r w'=>r= .returned (.int .i64 k)∧w'=w:=by
 have hq: ∀d:Int,0≤d→ ∃k:Nat,k<n∧Int.tmod d n=k:=fun d hd=>by
  obtain⟨e,rfl⟩:=Int.eq_ofNat_of_zero_le hd
  exact⟨e%n,Nat.mod_lt _ hn,by rw[Int.tmod_eq_emod_of_nonneg (by omega)];rfl⟩
 by_cases hc:c<0
 ·obtain⟨k,hk,hm⟩:=hq (-(c+1)) (by omega)
  refine⟨k,hk,fun w=> ?_⟩
  have hw1:wrap64 (c+1)=c+1:=by unfold wrap64;omega
  have hw2:wrap64 (-(c+1))= -(c+1):=by unfold wrap64;omega
  have hw3:wrap64 (k:Int)=k:=by unfold wrap64;omega
  have hnz:((n:Int)==0)=false:=by simp;omega
  clear hq
  go_enter Tryz.func58,Tryz.ntmps58
  go_wp2
  go_ret
  exact⟨rfl,rfl⟩
 ·obtain⟨k,hk,hm⟩:=hq c (by omega)
  refine⟨k,hk,fun w=> ?_⟩
  have hw3:wrap64 (k:Int)=k:=by unfold wrap64;omega
  have hnz:((n:Int)==0)=false:=by simp;omega
  clear hq
  go_enter Tryz.func58,Tryz.ntmps58
  go_wp2
  go_ret
  exact⟨rfl,rfl⟩
theorem enters_pick: ∀args w,(callFunc 58 args).run Tryz.prog w= .ok (.enter 58 args) w:=enters_of Tryz.func58 (by kernel_rfl) rfl
theorem enters_Funcs: ∀args w,(callFunc 40 args).run Tryz.prog w= .ok (.enter 40 args) w:=enters_of Tryz.func40 (by kernel_rfl) rfl
theorem enters_typed: ∀args w,(callFunc 59 args).run Tryz.prog w= .ok (.enter 59 args) w:=enters_of Tryz.func59 (by kernel_rfl) rfl

abbrev opV (kd a b c:Int) (sv lv:Value):Value:= .agg #[.int .i64 kd,.int .i64 a,.int .i64 b,.int .i64 c,sv,lv]

theorem step_load {w:World} {wb:Nat} {n:Int} {mv bv sv:Value} {mods:List Md} {cnt:Nat} (h:LwSt w no wb n mv bv mods cnt) {data:List UInt8} (hs:Rf.BytesOk w sv data) (hsl: ∀b,Rf.bvB sv data=some b→b<w.heap.size) (hd:data.length≤2000000) (a b c:Int) (al:Option Addr) (nl cl:Nat):
  Calls Tryz.prog 42 #[ptrTo wb,opV 1 a b c sv (.slice al nl cl)] w fun r w'=>r= .returned (.bool true)∧ ∃mv' mods',LwSt w' no wb n mv' bv mods' cnt∧(∀f,loadM data= .ok f→mods.length<4→ ∃x,x.f=f∧mods'=mods++[x])∧mods.length≤mods'.length∧Kp (fun b=>b=wb∨mv.ownBlock=some b) w w':=by
 obtain⟨ads,caps,rfl,hcap⟩:=hs.shape
 have H:=hide h
 have HS:=hide hs
 have HSl:=hide hsl
 clear h hs hsl
 go_enter Tryz.func42,Tryz.ntmps42
 go_wp2_with fail
 have k1:Kp no w (w.alloc (.cells #[.int .i64 1,.int .i64 a,.int .i64 b,.int .i64 c,.slice ads data.length caps,.slice al nl cl] 93)):=(Kp.refl _ _).alloc _
 generalize w.alloc (.cells #[.int .i64 1,.int .i64 a,.int .i64 b,.int .i64 c,.slice ads data.length caps,.slice al nl cl] 93)=w1 at *
 have hz:=k1.size
 refine(loaded_any (H.out.kp (X':=no) k1 (fun b h=>h.elim)) (HS.out.kp k1 (fun _ _ h=>h)) (fun b hb=>by have :=HSl.out b hb;omega) hd).mono ?_
 rintro r w2 ⟨rfl,mv',mods',h2,hf2,hl2,k2⟩
 have HF:=hide (show _∧_∧_∧_ from⟨h2,hf2,hl2,(k1.any).trans k2⟩)
 clear h2 hf2 k1 k2
 go_wp2_with fail
 go_ret
 exact⟨rfl,mv',mods',HF.out⟩

theorem step_none {w:World} {wb:Nat} {n:Int} {mv bv sv:Value} {mods:List Md} {cnt:Nat} (h:LwSt w no wb n mv bv mods cnt) (kd a b c:Int) (h3:kd≤3) (h1:kd≠1) (h2:kd≠2) (hk3:kd≠3) (ads:Option Addr) (ns cs:Nat) (al:Option Addr) (nl cl:Nat):
  Calls Tryz.prog 42 #[ptrTo wb,opV kd a b c (.slice ads ns cs) (.slice al nl cl)] w fun r w'=>r= .returned (.bool true)∧Kp no w w':=by
 obtain⟨cells,hown,-⟩:=h.mown
 obtain⟨adM,capM,rfl⟩:=own_shape hown
 have k1:Kp no w (w.alloc (.cells #[.int .i64 kd,.int .i64 a,.int .i64 b,.int .i64 c,.slice ads ns cs,.slice al nl cl] 93)):=(Kp.refl _ _).alloc _
 obtain⟨hcw,-⟩:=cells_of (k1.blk h.blk (fun h=>h))
 obtain⟨hct,-⟩:=cells_of (heap_alloc_new w (.cells #[.int .i64 kd,.int .i64 a,.int .i64 b,.int .i64 c,.slice ads ns cs,.slice al nl cl] 93))
 have b1:(kd==1)=false:=by simpa using h1
 have b4:(kd==4)=false:=by simp;omega
 have b5:(kd==5)=false:=by simp;omega
 have b6:(kd==6)=false:=by simp;omega
 have b7:(kd==7)=false:=by simp;omega
 have b8:(kd==8)=false:=by simp;omega
 have b9:(kd==9)=false:=by simp;omega
 have b10:(kd==10)=false:=by simp;omega
 have K1:=hide k1
 have b2:(kd==2)=false:=by simpa using h2
 have b3:(kd==3)=false:=by simpa using hk3
 clear h hown k1 h3 h1 h2 hk3
 go_enter Tryz.func42,Tryz.ntmps42
 go_wp2_with fail
 go_ret
 exact⟨rfl,K1.out⟩

theorem step_funcs {w:World} {wb:Nat} {n:Int} {mv bv:Value} {mods:List Md} {cnt:Nat} (h:LwSt w no wb n mv bv mods cnt) (hpos:0<mods.length) (a b c:Int) (ha1: -9223372036854775808≤a) (ha2:a≤9223372036854775807) (ads:Option Addr) (ns cs:Nat) (al:Option Addr) (nl cl:Nat):
  Calls Tryz.prog 42 #[ptrTo wb,opV 2 a b c (.slice ads ns cs) (.slice al nl cl)] w fun r w'=>r= .returned (.bool true)∧Kp no w w':=by
 have hml:=h.ml
 obtain⟨k,hk,hpick⟩:=pick_fix ha1 ha2 hpos (by omega)
 obtain⟨cells,hown,hrow⟩:=h.mown
 obtain⟨x,hx⟩: ∃x,mods[k]? =some x:=⟨_,List.getElem?_eq_getElem hk⟩
 obtain⟨e0,e1,hmod,hy⟩:=hrow k x hx
 have hok:=h.mok x (List.mem_of_getElem? hx)
 obtain⟨aM,oM,cM,hv,-,c0⟩:=(RowAt.own hown).get e0
 obtain⟨_,_,_,hv',-,c1⟩:=(RowAt.own hown).get e1
 rw[hv]at hv'
 cases hv'
 rw[←Nat.add_assoc]at c1
 obtain⟨tv,fv,gv,pages,yc,yblk,-,-,yrow,-⟩:=hy
 obtain⟨adF,capF,hvF,-⟩:=RowAt.shape yrow
 subst hvF hv
 rw[List.length_map]at yblk
 have HB:=hide h.blk
 have HMod:=hide hmod
 have HYB:=hide yblk
 have HP:=hide hpick
 have hfl:=hok.n
 clear h hown hrow e0 e1 hmod yblk yrow hpick hx
 go_enter Tryz.func42,Tryz.ntmps42
 have k1:Kp no w (w.alloc (.cells #[.int .i64 2,.int .i64 a,.int .i64 b,.int .i64 c,.slice ads ns cs,.slice al nl cl] 93)):=(Kp.refl _ _).alloc _
 have ht1:=heap_alloc_new w (.cells #[.int .i64 2,.int .i64 a,.int .i64 b,.int .i64 c,.slice ads ns cs,.slice al nl cl] 93)
 obtain⟨hcw,-⟩:=cells_of (k1.blk HB.out (fun h=>h))
 go_wp2_with fail
 generalize w.alloc (.cells #[.int .i64 2,.int .i64 a,.int .i64 b,.int .i64 c,.slice ads ns cs,.slice al nl cl] 93)=w1 at *
 obtain⟨S,hSd⟩: ∃S:World→Prop,S=fun w'=>(∀q,w'.cell? ⟨wb,q,none⟩= #[.slice (some ⟨aM,oM,none⟩) mods.length cM,.slice none 0 0,.slice none 0 0,.int .i64 n,bv,.slice none 0 0,.slice none 0 0,.bool false][q]?)∧(∀q,w'.cell? ⟨w.heap.size,q,none⟩= #[.int .i64 2,.int .i64 a,.int .i64 b,.int .i64 c,.slice ads ns cs,.slice al nl cl][q]?)∧w'.cell? ⟨aM,oM+k*2,none⟩=some (ptrTo x.x)∧w'.cell? ⟨aM,oM+k*2+1,none⟩=some (ptrTo x.y):=⟨_,rfl⟩
 have hSk: ∀W,Kp no w1 W→S W:=fun W kk=>by
  rw[hSd]
  exact⟨(cells_of ((k1.trans kk).blk HB.out (fun h=>h))).1,(cells_of (kk.blk ht1 (fun h=>h))).1,(k1.trans kk).allCells c0,(k1.trans kk).allCells c1⟩
 have HSk:=hide hSk
 have HSd:=hide hSd
 have K1:=hide k1
 have HT1:=hide ht1
 clear hSk hSd k1 ht1 hcw c0 c1
 go_cut [5] (fun p wx=>p= .pointer (some ⟨w1.heap.size,0,none⟩)∧wx.heap[w1.heap.size]? =some (.cells #[ptrTo x.x,ptrTo x.y] 144)∧Kp no w1 wx)
 case first =>
  refine wp_region_S 15 (S) (by kernel_rfl) (n:=16) rfl rfl ?hS (fun hS=> ?_)
  case hS=>exact HSk.out _ ((Kp.refl _ _).drew)
  have hSd:=HSd.out
  subst hSd
  refine tk 0 [] rfl (by kernel_rfl) rfl (fun _ _ _ h=>h) hS (fun _ h=>by(try dsimp only at h);go_simp;all_goals with_reducible rfl) ?_
  simp only[pS]
  refine tk 1 [] rfl (by kernel_rfl) rfl (fun _ _ _ h=>h) hS (fun _ h=>by(try dsimp only at h);go_simp;all_goals with_reducible rfl) ?_
  simp only[pS]
  refine tk 2 [] rfl (by kernel_rfl) rfl (fun _ _ _ h=>h) hS (fun _ h=>by(try dsimp only at h);go_simp;all_goals with_reducible rfl) ?_
  simp only[pS]
  refine tk 3 [] rfl (by kernel_rfl) rfl (fun _ _ _ h=>h) hS (fun _ h=>by(try dsimp only at h);go_simp;all_goals with_reducible rfl) ?_
  simp only[pS]
  refine tk 4 [] rfl (by kernel_rfl) rfl (fun _ _ _ h=>h) hS (fun _ h=>by(try dsimp only at h);go_simp;all_goals with_reducible rfl) ?_
  simp only[pS]
  refine tk 5 [] rfl (by kernel_rfl) rfl (fun _ _ _ h=>h) hS (fun _ h=>by(try dsimp only at h);go_simp;all_goals with_reducible rfl) ?_
  simp only[pS]
  refine tk 6 [] rfl (by kernel_rfl) rfl (fun _ _ _ h=>h) hS (fun _ h=>by(try dsimp only at h);go_simp;all_goals with_reducible rfl) ?_
  simp only[pS]
  refine tk 7 [] rfl (by kernel_rfl) rfl (fun _ _ _ h=>h) hS (fun _ h=>by(try dsimp only at h);go_simp;all_goals with_reducible rfl) ?_
  simp only[pS]
  refine tk 8 [] rfl (by kernel_rfl) rfl (fun _ _ _ h=>h) hS (fun _ h=>by(try dsimp only at h);go_simp;all_goals with_reducible rfl) ?_
  simp only[pS]
  refine tk 9 [] rfl (by kernel_rfl) rfl (fun _ _ _ h=>h) hS (fun _ h=>by(try dsimp only at h);go_simp;all_goals with_reducible rfl) ?_
  simp only[pS]
  refine tk 10 [] rfl (by kernel_rfl) rfl (fun _ _ _ h=>h) hS (fun _ h=>by(try dsimp only at h);go_simp;all_goals with_reducible rfl) ?_
  simp only[pS]
  refine wpAnyS_two 11 14 (l1:= #[true,true,true,true,true,true,true,true,true,true,true,true,false,false,false,false]) (l2:= #[true,true,true,true,true,true,true,true,true,true,true,false,false,false,true,false]) rfl rfl (by kernel_rfl) (by kernel_rfl) (by kernel_rfl) (fun K hK=> ?twoA) (fun K hK=> ?twoB)
  case twoA=>

   refine step_call (by rfl) 58 _ _ (by rfl) enters_pick #[.int .i64 a,.int .i64 mods.length] (by rfl) (HP.out _) ?_
   rintro r w2 ⟨rfl,rfl⟩
   refine⟨_,rfl,hK _ _ (HSk.out _ ((Kp.refl _ _).drew)) (fun hS=> ?_)⟩
   clear hK K
   simp only[Act.put,List.setIfInBounds_toArray,List.set_cons_zero,List.set_cons_succ]
   refine tk 12 [] rfl (by kernel_rfl) rfl (fun _ _ _ h=>h) hS (fun _ h=>by(try dsimp only at h);go_simp;all_goals with_reducible rfl) ?_
   simp only[pS]
   refine tk 13 [] rfl (by kernel_rfl) rfl (fun _ _ _ h=>h) hS (fun _ h=>by(try dsimp only at h);go_simp;all_goals with_reducible rfl) ?_
   simp only[pS]
   refine wpAnyS_one 14 rfl (by kernel_rfl) rfl (fun K hK=> ?_)
   go_simp
   have hx2:=heap_alloc_new w1 (.cells #[.pointer none,.pointer none] 144)
   have k2:Kp no w1 ((w1.alloc (.cells #[.pointer none,.pointer none] 144)).drew):=((Kp.refl _ _).alloc _).drew
   change((w1.alloc (.cells #[.pointer none,.pointer none] 144)).drew).heap[w1.heap.size]? =_ at hx2
   generalize(w1.alloc (.cells #[.pointer none,.pointer none] 144)).drew=w2 at *
   obtain⟨hcx,hfx⟩:=cells_of hx2
   refine hK _ _ (HSk.out _ k2) (fun hS=> ?_)
   clear hK K
   refine wpAnyS_end 15 rfl (by kernel_rfl) rfl (by kernel_rfl) (fun K hK=> ?_)
   go_simp
   refine hK _ _ ?_
   clear hK K
   refine wpAnyS_done (by kernel_rfl) ?_ _
   go_wp2_with fail
   go_meet
   exact⟨rfl,heap_setCell (heap_setCell hx2 _) _,(k2.setNew (Nat.le_refl _) _ _).setNew (Nat.le_refl _) _ _⟩
  case twoB=>

   go_simp
   have hx2:=heap_alloc_new w1 (.cells #[.pointer none,.pointer none] 144)
   have k2:Kp no w1 ((w1.alloc (.cells #[.pointer none,.pointer none] 144)).drew):=((Kp.refl _ _).alloc _).drew
   change((w1.alloc (.cells #[.pointer none,.pointer none] 144)).drew).heap[w1.heap.size]? =_ at hx2
   generalize(w1.alloc (.cells #[.pointer none,.pointer none] 144)).drew=w2 at *
   obtain⟨hcx,hfx⟩:=cells_of hx2
   refine hK _ _ (HSk.out _ k2) (fun hS=> ?_)
   clear hK K
   refine wpAnyS_one 11 rfl (by kernel_rfl) rfl (fun K hK=> ?_)
   refine step_call (by rfl) 58 _ _ (by rfl) enters_pick #[.int .i64 a,.int .i64 mods.length] (by rfl) (HP.out _) ?_
   rintro r w3 ⟨rfl,rfl⟩
   refine⟨_,rfl,hK _ _ (HSk.out _ k2) (fun hS=> ?_)⟩
   clear hK K
   simp only[Act.put,List.setIfInBounds_toArray,List.set_cons_zero,List.set_cons_succ]
   refine tk 12 [] rfl (by kernel_rfl) rfl (fun _ _ _ h=>h) hS (fun _ h=>by(try dsimp only at h);go_simp;all_goals with_reducible rfl) ?_
   simp only[pS]
   refine tk 13 [] rfl (by kernel_rfl) rfl (fun _ _ _ h=>h) hS (fun _ h=>by(try dsimp only at h);go_simp;all_goals with_reducible rfl) ?_
   simp only[pS]
   refine wpAnyS_end 15 rfl (by kernel_rfl) rfl (by kernel_rfl) (fun K hK=> ?_)
   go_simp
   refine hK _ _ ?_
   clear hK K
   refine wpAnyS_done (by kernel_rfl) ?_ _
   go_wp2_with fail
   go_meet
   exact⟨rfl,heap_setCell (heap_setCell hx2 _) _,(k2.setNew (Nat.le_refl _) _ _).setNew (Nat.le_refl _) _ _⟩
 case rest=>
  rename World=>w3
  obtain⟨rfl,hb3,k3⟩:=hcut
  have hyb:=(K1.out.trans k3).blk HYB.out (fun h=>h)
  have HM3:=hide (HMod.out.kp ((K1.out.trans k3).any))
  obtain⟨S,hSd⟩: ∃S:World→Prop,S=fun w'=>(∀q,w'.cell? ⟨w1.heap.size,q,none⟩= #[ptrTo x.x,ptrTo x.y][q]?)∧(∀q,w'.cell? ⟨x.y,q,none⟩= #[tv,.slice adF x.f.funcs.length capF,gv,.int .i64 pages][q]?):=⟨_,rfl⟩
  have hSk: ∀W,Kp no w3 W→S W:=fun W kk=>by
   rw[hSd]
   exact⟨(cells_of (kk.blk hb3 (fun h=>h))).1,(cells_of (kk.blk hyb (fun h=>h))).1⟩
  have HSk:=hide hSk
  have HSd:=hide hSd
  have K3:=hide (K1.out.trans k3)
  clear hSk hSd hb3 hyb k3
  go_wp2_with fail
  refine wp_region_S 11 (S) (by kernel_rfl) (n:=11) rfl rfl ?hS (fun hS=> ?_)
  case hS=>exact HSk.out _ ((Kp.refl _ _).drew)
  have hSd:=HSd.out
  subst hSd
  refine tk 0 [] rfl (by kernel_rfl) rfl (fun _ _ _ h=>h) hS (fun _ h=>by(try dsimp only at h);go_simp;all_goals with_reducible rfl) ?_
  simp only[pS]
  refine tk 1 [] rfl (by kernel_rfl) rfl (fun _ _ _ h=>h) hS (fun _ h=>by(try dsimp only at h);go_simp;all_goals with_reducible rfl) ?_
  simp only[pS]
  refine tk 3 [] rfl (by kernel_rfl) rfl (fun _ _ _ h=>h) hS (fun _ h=>by(try dsimp only at h);go_simp;all_goals with_reducible rfl) ?_
  simp only[pS]
  refine tk 4 [] rfl (by kernel_rfl) rfl (fun _ _ _ h=>h) hS (fun _ h=>by(try dsimp only at h);go_simp;all_goals with_reducible rfl) ?_
  simp only[pS]
  refine tk 5 [] rfl (by kernel_rfl) rfl (fun _ _ _ h=>h) hS (fun _ h=>by(try dsimp only at h);go_simp;all_goals with_reducible rfl) ?_
  simp only[pS]
  refine tk 6 [] rfl (by kernel_rfl) rfl (fun _ _ _ h=>h) hS (fun _ h=>by(try dsimp only at h);go_simp;all_goals with_reducible rfl) ?_
  simp only[pS]
  refine tk 7 [] rfl (by kernel_rfl) rfl (fun _ _ _ h=>h) hS (fun _ h=>by(try dsimp only at h);go_simp;all_goals with_reducible rfl) ?_
  simp only[pS]
  refine tk 8 [] rfl (by kernel_rfl) rfl (fun _ _ _ h=>h) hS (fun _ h=>by(try dsimp only at h);go_simp;all_goals with_reducible rfl) ?_
  simp only[pS]
  refine wpAnyS_one 2 rfl (by kernel_rfl) rfl (fun K hK=> ?_)
  refine step_call (by rfl) 40 _ _ (by rfl) enters_Funcs _ (by rfl) (funcs_any (HM3.out.kp (((Kp.refl no w3).drew).any))) ?_
  rintro r w4 ⟨rfl,rfl⟩
  refine⟨_,rfl,hK _ _ (HSk.out _ ((Kp.refl _ _).drew)) (fun hS=> ?_)⟩
  clear hK K
  simp only[Act.put,List.setIfInBounds_toArray,List.set_cons_zero,List.set_cons_succ]
  refine tk 9 [] rfl (by kernel_rfl) rfl (fun _ _ _ h=>h) hS (fun _ h=>by(try dsimp only at h);go_simp;all_goals with_reducible rfl) ?_
  simp only[pS]
  refine tk 10 [] rfl (by kernel_rfl) rfl (fun _ _ _ h=>h) hS (fun _ h=>by(try dsimp only at h);go_simp;all_goals with_reducible rfl) ?_
  simp only[pS]
  refine wpAnyS_done (by kernel_rfl) ?_ _
  go_wp2_with fail
  go_ret
  exact⟨by simp,K3.out.drew⟩
end Go.Proofs.YtdeplgkhmebalaaGreatDoor

set_option linter.unusedSimpArgs false
set_option linter.unusedVariables false
set_option maxHeartbeats 4000000
set_option maxRecDepth 100000
namespace Go.Proofs.YtdeplgkhmebalaaGreatDoor
open Go.RowKit

theorem step_type {w:World} {wb:Nat} {n:Int} {mv bv:Value} {mods:List Md} {cnt:Nat} (h:LwSt w no wb n mv bv mods cnt) (hpos:0<mods.length) (hc:cnt≤100000000) (a b c:Int) (ha1: -9223372036854775808≤a) (ha2:a≤9223372036854775807) (ads:Option Addr) (ns cs:Nat) (al:Option Addr) (nl cl:Nat):
  Calls Tryz.prog 42 #[ptrTo wb,opV 3 a b c (.slice ads ns cs) (.slice al nl cl)] w fun r w'=>r= .returned (.bool true)∧ ∃n' bv',LwSt w' no wb n' mv bv' mods (cnt+2)∧Kp (fun b=>b=wb∨bv.ownBlock=some b) w w':=by
 have hml:=h.ml
 obtain⟨k,hk,hpick⟩:=pick_fix ha1 ha2 hpos (by omega)
 obtain⟨cells,hown,hrow⟩:=h.mown
 obtain⟨x,hx⟩: ∃x,mods[k]? =some x:=⟨_,List.getElem?_eq_getElem hk⟩
 obtain⟨e0,e1,hmod,hy⟩:=hrow k x hx
 have hok:=h.mok x (List.mem_of_getElem? hx)
 obtain⟨aM,oM,cM,hv,-,c0⟩:=(RowAt.own hown).get e0
 obtain⟨_,_,_,hv',-,c1⟩:=(RowAt.own hown).get e1
 rw[hv]at hv'
 cases hv'
 rw[←Nat.add_assoc]at c1
 subst hv
 have H:=hide h
 have HMod:=hide hmod
 have HY:=hide hy
 have HP:=hide hpick
 have HB:=hide h.blk
 clear h hown hrow e0 e1 hmod hy hpick hx
 go_enter Tryz.func42,Tryz.ntmps42
 have k1:Kp no w (w.alloc (.cells #[.int .i64 3,.int .i64 a,.int .i64 b,.int .i64 c,.slice ads ns cs,.slice al nl cl] 93)):=(Kp.refl _ _).alloc _
 have ht1:=heap_alloc_new w (.cells #[.int .i64 3,.int .i64 a,.int .i64 b,.int .i64 c,.slice ads ns cs,.slice al nl cl] 93)
 obtain⟨hcw,-⟩:=cells_of (k1.blk HB.out (fun h=>h))
 go_wp2_with fail
 generalize w.alloc (.cells #[.int .i64 3,.int .i64 a,.int .i64 b,.int .i64 c,.slice ads ns cs,.slice al nl cl] 93)=w1 at *
 obtain⟨S,hSd⟩: ∃S:World→Prop,S=fun w'=>(∀q,w'.cell? ⟨wb,q,none⟩= #[.slice (some ⟨aM,oM,none⟩) mods.length cM,.slice none 0 0,.slice none 0 0,.int .i64 n,bv,.slice none 0 0,.slice none 0 0,.bool false][q]?)∧(∀q,w'.cell? ⟨w.heap.size,q,none⟩= #[.int .i64 3,.int .i64 a,.int .i64 b,.int .i64 c,.slice ads ns cs,.slice al nl cl][q]?)∧w'.cell? ⟨aM,oM+k*2,none⟩=some (ptrTo x.x)∧w'.cell? ⟨aM,oM+k*2+1,none⟩=some (ptrTo x.y):=⟨_,rfl⟩
 have hSk: ∀W,Kp no w1 W→S W:=fun W kk=>by
  rw[hSd]
  exact⟨(cells_of ((k1.trans kk).blk HB.out (fun h=>h))).1,(cells_of (kk.blk ht1 (fun h=>h))).1,(k1.trans kk).allCells c0,(k1.trans kk).allCells c1⟩
 have HSk:=hide hSk
 have HSd:=hide hSd
 have K1:=hide k1
 clear hSk hSd k1 ht1 hcw c0 c1
 refine wp_region_S 17 (S) (by kernel_rfl) (n:=19) rfl rfl ?hS (fun hS=> ?_)
 case hS=>exact HSk.out _ ((Kp.refl _ _).drew)
 have hSd:=HSd.out
 subst hSd
 refine tk 0 [] rfl (by kernel_rfl) rfl (fun _ _ _ h=>h) hS (fun _ h=>by(try dsimp only at h);go_simp;all_goals with_reducible rfl) ?_
 simp only[pS]
 refine tk 1 [2,3,4,13,14] rfl (by kernel_rfl) rfl (fun _ _ _ h=>h) hS (fun _ h=>by(try dsimp only at h);go_simp;all_goals with_reducible rfl) ?_
 simp only[pS]
 refine tk 2 [3,4,13,14] rfl (by kernel_rfl) rfl (fun _ _ _ h=>h) hS (fun _ h=>by(try dsimp only at h);go_simp;all_goals with_reducible rfl) ?_
 simp only[pS]
 refine tk 3 [4,13,14] rfl (by kernel_rfl) rfl (fun _ _ _ h=>h) hS (fun _ h=>by(try dsimp only at h);go_simp;all_goals with_reducible rfl) ?_
 simp only[pS]
 refine tk 4 [13,14] rfl (by kernel_rfl) rfl (fun _ _ _ h=>h) hS (fun _ h=>by(try dsimp only at h);go_simp;all_goals with_reducible rfl) ?_
 simp only[pS]
 refine tk 5 [6,12] rfl (by kernel_rfl) rfl (fun _ _ _ h=>h) hS (fun _ h=>by(try dsimp only at h);go_simp;all_goals with_reducible rfl) ?_
 simp only[pS]
 refine tk 6 [12] rfl (by kernel_rfl) rfl (fun _ _ _ h=>h) hS (fun _ h=>by(try dsimp only at h);go_simp;all_goals with_reducible rfl) ?_
 simp only[pS]
 refine tk 7 [8,9,10,11,12] rfl (by kernel_rfl) rfl (fun _ _ _ h=>h) hS (fun _ h=>by(try dsimp only at h);go_simp;all_goals with_reducible rfl) ?_
 simp only[pS]
 refine tk 8 [9,10,11,12] rfl (by kernel_rfl) rfl (fun _ _ _ h=>h) hS (fun _ h=>by(try dsimp only at h);go_simp;all_goals with_reducible rfl) ?_
 simp only[pS]
 refine tk 9 [10,11,12] rfl (by kernel_rfl) rfl (fun _ _ _ h=>h) hS (fun _ h=>by(try dsimp only at h);go_simp;all_goals with_reducible rfl) ?_
 simp only[pS]
 refine tk 10 [11,12] rfl (by kernel_rfl) rfl (fun _ _ _ h=>h) hS (fun _ h=>by(try dsimp only at h);go_simp;all_goals with_reducible rfl) ?_
 simp only[pS]
 refine tk 11 [12] rfl (by kernel_rfl) rfl (fun _ _ _ h=>h) hS (fun _ h=>by(try dsimp only at h);go_simp;all_goals with_reducible rfl) ?_
 simp only[pS]
 refine tk 15 [16] rfl (by kernel_rfl) rfl (fun _ _ _ h=>h) hS (fun _ h=>by(try dsimp only at h);go_simp;all_goals with_reducible rfl) ?_
 simp only[pS]
 refine tk 16 [] rfl (by kernel_rfl) rfl (fun _ _ _ h=>h) hS (fun _ h=>by(try dsimp only at h);go_simp;all_goals with_reducible rfl) ?_
 simp only[pS]
 refine wpAnyS_one 12 rfl (by kernel_rfl) rfl (fun K hK=> ?_)
 refine step_call (by rfl) 58 _ _ (by rfl) enters_pick #[.int .i64 a,.int .i64 mods.length] (by rfl) (HP.out _) ?_
 rintro r w2 ⟨rfl,rfl⟩
 refine⟨_,rfl,hK _ _ (HSk.out _ ((Kp.refl _ _).drew)) (fun hS=> ?_)⟩
 clear hK K
 simp only[Act.put,List.setIfInBounds_toArray,List.set_cons_zero,List.set_cons_succ]
 refine tk 13 [14] rfl (by kernel_rfl) rfl (fun _ _ _ h=>h) hS (fun _ h=>by(try dsimp only at h);go_simp;all_goals with_reducible rfl) ?_
 simp only[pS]
 refine tk 14 [] rfl (by kernel_rfl) rfl (fun _ _ _ h=>h) hS (fun _ h=>by(try dsimp only at h);go_simp;all_goals with_reducible rfl) ?_
 simp only[pS]
 refine wpAnyS_end 17 rfl (by kernel_rfl) rfl (by kernel_rfl) (fun K hK=> ?_)
 have k2:Kp no w w1.drew:=K1.out.drew
 have hr2:=RO.on (w:=w) (w':=w1.drew) (X:=no) (X':=no) (wb:=wb) (mv:= .slice (some ⟨aM,oM,none⟩) mods.length cM) (bv:=bv) k2.size (.inl rfl) (.inl rfl) (fun b h=>h.elim)
 refine step_call (by rfl) 59 _ _ (by rfl) enters_typed #[ptrTo wb,.agg #[ptrTo x.x,ptrTo x.y],.int .i64 b] (by rfl) (typed_any (H.out.kp (X':=no) k2 (fun b h=>h.elim)) ((HMod.out.kp k2.any).le' hr2) ((HY.out.kp k2.any).le hr2) hok b hc) ?_
 rintro r w3 ⟨rfl,n3,bv3,h3,k3⟩
 have HF:=hide (show _∧_ from⟨h3,(k2.any).trans k3⟩)
 refine⟨_,rfl,hK _ _ ?_⟩
 clear hK K h3 k3
 simp only[Act.put,List.setIfInBounds_toArray,List.set_cons_zero,List.set_cons_succ]
 refine wpAnyS_end 18 rfl (by kernel_rfl) rfl (by kernel_rfl) (fun K hK=> ?_)
 go_simp
 refine hK _ _ ?_
 clear hK K
 refine wpAnyS_done (by kernel_rfl) ?_ _
 clear hS
 go_wp2_with fail
 go_ret
 exact⟨rfl,⟨n3,bv3,HF.out.1⟩,HF.out.2⟩

theorem lawStep_any {w:World} {wb:Nat} {n:Int} {mv bv sv:Value} {mods:List Md} {cnt:Nat} (h:LwSt w no wb n mv bv mods cnt) (hpos:0<mods.length) (hc:cnt≤100000000) {data:List UInt8} (hs:Rf.BytesOk w sv data) (hsl: ∀b,Rf.bvB sv data=some b→b<w.heap.size) (hd:data.length≤2000000) (kd a b c:Int) (h3:kd≤3) (ha1: -9223372036854775808≤a) (ha2:a≤9223372036854775807) (al:Option Addr) (nl cl:Nat):
  Calls Tryz.prog 42 #[ptrTo wb,opV kd a b c sv (.slice al nl cl)] w fun r w'=>r= .returned (.bool true)∧ ∃n' mv' bv' mods' cnt',LwSt w' no wb n' mv' bv' mods' cnt'∧cnt'≤cnt+2∧0<mods'.length∧Kp (fun b=>wb≤b) w w':=by
 obtain⟨c1,o1,-⟩:=h.mown
 obtain⟨c2,o2,-⟩:=h.bown
 have hm1: ∀b,mv.ownBlock=some b→wb≤b:=fun b hb=>by have :=own_new o1 b hb;omega
 have hb1: ∀b,bv.ownBlock=some b→wb≤b:=fun b hb=>by have :=own_new o2 b hb;omega
 obtain⟨ads,caps,hv,-⟩:=hs.shape
 by_cases e1:kd=1
 ·subst e1
  refine(step_load h hs hsl hd a b c al nl cl).mono ?_
  rintro r w' ⟨rfl,mv',mods',q1,-,q3,q4⟩
  exact⟨rfl,n,mv',bv,mods',cnt,q1,by omega,by omega,q4.mono (fun b _ hb=>by
   rcases hb with hb|hb
   ·omega
   ·exact hm1 b hb)⟩
 ·by_cases e2:kd=2
  ·subst e2 hv
   refine(step_funcs h hpos a b c ha1 ha2 ads _ caps al nl cl).mono ?_
   rintro r w' ⟨rfl,k⟩
   exact⟨rfl,n,mv,bv,mods,cnt,h.kp k (fun b h=>h.elim),by omega,hpos,k.any⟩
  ·by_cases e3:kd=3
   ·subst e3 hv
    refine(step_type h hpos hc a b c ha1 ha2 ads _ caps al nl cl).mono ?_
    rintro r w' ⟨rfl,n',bv',q1,q2⟩
    exact⟨rfl,n',mv,bv',mods,cnt+2,q1,by omega,hpos,q2.mono (fun b _ hb=>by
     rcases hb with hb|hb
     ·omega
     ·exact hb1 b hb)⟩
   ·subst hv
    refine(step_none (sv:= .slice none 0 0) h kd a b c h3 e1 e2 e3 ads _ caps al nl cl).mono ?_
    rintro r w' ⟨rfl,k⟩
    exact⟨rfl,n,mv,bv,mods,cnt,h.kp k (fun b h=>h.elim),by omega,hpos,k.any⟩
end Go.Proofs.YtdeplgkhmebalaaGreatDoor
