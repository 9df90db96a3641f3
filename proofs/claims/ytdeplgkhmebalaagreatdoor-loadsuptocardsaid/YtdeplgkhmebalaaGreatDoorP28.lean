/- The program's look at a body: instructions of a row. -/
import Derived.Test.YtdeplgkhmebalaaGreatDoorP19
import Derived.Lib.ConvBytes
import Derived.Test.YtdeplgkhmebalaaGreatDoorP21
import Derived.Test.YtdeplgkhmebalaaGreatDoorP24
import Derived.Test.YtdeplgkhmebalaaGreatDoorP25
import Derived.Test.YtdeplgkhmebalaaGreatDoorP26
import Derived.Test.YtdeplgkhmebalaaGreatDoorP27

set_option linter.unusedSimpArgs false
set_option linter.unusedVariables false
set_option maxHeartbeats 3000000
set_option maxRecDepth 100000
namespace Go.Proofs.YtdeplgkhmebalaaGreatDoor
open Go.RowKit

theorem conv_any (w:World) (l:List UInt8): ∃cap w',(convert 9 25 (.string ⟨l.toArray⟩)).run Tryz.prog w= .ok (.slice (some ⟨w.heap.size,0,none⟩) l.length cap) w'∧Kp no w w'∧w.heap.size<w'.heap.size∧BytesAt w' (.slice (some ⟨w.heap.size,0,none⟩) l.length cap) l:=by
 have hsz:(⟨l.toArray⟩:ByteArray).size=l.length:=by simp[ByteArray.size]
 refine⟨grownCap w l.length 0 5,Lib.bytesWorld w 5 ⟨l.toArray⟩,?_,?_,?_,?_⟩
 ·have :=Lib.run_convert_string_bytes (P:=Tryz.prog) w 9 25 5 ⟨l.toArray⟩ Tryz.underlying9 Tryz.underlying25 Tryz.underlying5
  rw[hsz]at this;exact this
 ·exact⟨rfl,rfl,rfl,by rw[Lib.bytesWorld_size];omega,fun k hk _=>Lib.bytesWorld_at_old _ _ _ _ hk⟩
 ·rw[Lib.bytesWorld_size];omega
 ·have :=BytesAt.mk (w:=Lib.bytesWorld w 5 ⟨l.toArray⟩) (a:=w.heap.size) (o:=0) (cap:=grownCap w l.length 0 5) (l:=l) (grownCap_ge _ _ _ _) (fun k hk=>by
   rw[Nat.zero_add,Lib.bytesWorld_cell _ _ _ _ (by rw[hsz];exact hk)])
  exact this

section
variable{E:Env} {g N:Nat} {w:World} {s:Bd}

theorem plain_any' (h:BSt E g w s) (z:Sz N s) (hN:N≤500000) (hne:s.blocks≠[]) (op:UInt8) (r:RowT) (hb:r.behind=0∨r.behind=1∨r.behind=2∨r.behind=3) (htk:r.takes.length≤2) (hgv:r.gives.length≤1):
  Calls Tryz.prog 213 #[ptrTo E.bb,.int .u8 op.toNat,rowAgg r] w fun x w'=>Done E w w' (plainB E.c op r s) x∧Kp (nro E.ro) w w':=by
 have hM:plainB E.c op r s=(match behindM E.c.D r.behind s.i with
  | .error e=> .error e
  | .ok (n,j)=>
   match takeAllM {s with i:=j} r.takes with
   |none=>wrongM s
   |some s1=> .ok (putM (emitM s1 ⟨op,n,0,0,0⟩) r.gives)):=rfl
 generalize plainB E.c op r s=R at *
 obtain⟨fr,up,bh,tk,gv⟩:=r
 simp only at *
 have hst:=z.st
 have hcd:=z.cd
 have hbe:=fun X W (h1:BSt (E.plus X) g W s)=>behind_any h1 bh hb
 have hlt:w.heap.size<w.heap.size+1:=by omega
 simp only at hbe
 generalize behindM E.c.D bh s.i=Q at *
 have H:=hide h
 have HBe:=hide hbe
 clear hbe h
 simp only[rowAgg,rowCells]
 match Q,hM,HBe with
 | .error e,hM,HBe=>
  have HM:=hide hM
  clear hM
  go_enter Tryz.func213,Tryz.ntmps213
  go_wp2_with fail
  refine(HBe.out (one w.heap.size) _ (H.out.guard ((Kp.refl no w).alloc _) (one w.heap.size) (by intro b hb;cases hb;constructor <;>simp))).mono ?_
  rintro x w1 ⟨⟨zv,fv,rfl,fb,rfl,hfb,hfo⟩,k1⟩
  have HF:=hide hfo
  clear hfo
  go_wp2
  go_ret
  rw[HM.out]
  exact⟨⟨ptrTo fb,rfl,fb,rfl,by simp at hfb;omega,HF.out⟩,(Kp.refl (nro E.ro) w).alloc _|>.trans (Kp.unguard ((H.out.guard ((Kp.refl no w).alloc _) (one w.heap.size) (by intro b hb;cases hb;constructor <;>simp)).nroRb k1))⟩
 | .ok (n,j),hM,HBe=>
  simp only at hM
  have z0:Sz N {s with i:=j}:=z.read j s.pos s.closed
  have hta:=fun X W (h1:BSt (E.plus X) g W {s with i:=j}) tv (ht:BytesAt W tv tk) (hn: ∀b,tv.ownBlock=some b→b≠E.bb)=>takeAll_any h1 hne z.bl (by simp only;omega) ht (by omega) hn
  have hzz: ∀s2,takeAllM {s with i:=j} tk=some s2→Sz N s2∧Sunk {s with i:=j} s2:=fun s2 h2=>⟨takeAll_sz z0 h2,takeN_sunk _ h2⟩
  generalize takeAllM {s with i:=j} tk=Q2 at *
  have HT:=hide hta
  clear hta
  match Q2,hM,HT,hzz with
  |none,hM,HT,_=>
   have HM:=hide hM
   clear hM
   go_enter Tryz.func213,Tryz.ntmps213
   go_wp2_with fail
   refine(HBe.out (one w.heap.size) _ (H.out.guard ((Kp.refl no w).alloc _) (one w.heap.size) (by intro b hb;cases hb;constructor <;>simp))).mono ?_
   rintro x w1 ⟨⟨rfl,h1⟩,k1⟩
   obtain⟨hx1,hxf1⟩:=cells_of (k1.blk (heap_alloc_new w (.cells #[.int .u8 fr.toNat,.int .u8 up.toNat,.int .i64 bh,.string ⟨tk.toArray⟩,.string ⟨gv.toArray⟩] 329)) (fun e=>by have :=lt_of_blk H.out.rd.blk;change w.heap.size=E.rb at e;omega))
   have H1:=hide h1
   obtain⟨cap2,w2,hrun,k2,hsz2,hbt⟩:=conv_any w1 tk
   have hbb:w1.heap.size≠E.bb:=by obtain⟨sv,kc,hbo,-⟩:=h1.bodyAt;have :=lt_of_blk hbo;change E.bb<w1.heap.size at this;omega
   have HT1:=hide (HT.out _ w2 (h1.quiet k2) _ hbt (fun b hb=>by cases hb;exact hbb))
   have HK2:=hide (Kp.trans (Kp.trans ((Kp.refl (nro E.ro) w).alloc _) (Kp.unguard ((H.out.guard ((Kp.refl no w).alloc _) (one w.heap.size) (by intro b hb;cases hb;constructor <;>simp)).nroRb k1))) k2.any)
   clear h1
   go_wp2_with fail
   refine HT1.out.mono ?_
   rintro x w3 ⟨⟨rfl,s2,h1,hs2⟩,k3⟩
   have hp:s2.pos=s.pos:=hs2.pos
   have HK:=hide (HK2.out.trans (Kp.unguard ((H1.out.quiet k2).nroBb k3)))
   clear hs2
   have HP:=hide hp
   have HW:=hide (wrong_any h1)
   clear h1 hp
   go_wp2_with fail
   refine HW.out.mono ?_
   rintro e w8 ⟨⟨fv,rfl,fb,rfl,hfb,hfo⟩,k8⟩
   have HF:=hide hfo
   clear hfo
   go_wp2
   go_ret
   rw[HM.out]
   exact⟨⟨ptrTo fb,rfl,fb,rfl,by have :=HK.out.size;omega,by rw[←HP.out];exact HF.out⟩,HK.out.trans k8.any⟩
  |some s1,hM,HT,hzz=>
   have HM:=hide hM
   have HZ:=hide (hzz s1 rfl)
   have hz1:=HZ.out.1.st
   have hz2:=HZ.out.1.cd
   clear hM hzz
   go_enter Tryz.func213,Tryz.ntmps213
   go_wp2_with fail
   refine(HBe.out (one w.heap.size) _ (H.out.guard ((Kp.refl no w).alloc _) (one w.heap.size) (by intro b hb;cases hb;constructor <;>simp))).mono ?_
   rintro x w1 ⟨⟨rfl,h1⟩,k1⟩
   have hb1:=k1.blk (heap_alloc_new w (.cells #[.int .u8 fr.toNat,.int .u8 up.toNat,.int .i64 bh,.string ⟨tk.toArray⟩,.string ⟨gv.toArray⟩] 329)) (fun e=>by have :=lt_of_blk H.out.rd.blk;change w.heap.size=E.rb at e;omega)
   obtain⟨hx1,hxf1⟩:=cells_of hb1
   have H1:=hide h1
   obtain⟨cap2,w2,hrun,k2,hsz2,hbt⟩:=conv_any w1 tk
   have hbb:w1.heap.size≠E.bb:=by obtain⟨sv,kc,hbo,-⟩:=h1.bodyAt;have :=lt_of_blk hbo;change E.bb<w1.heap.size at this;omega
   have HT1:=hide (HT.out _ w2 (h1.quiet k2) _ hbt (fun b hb=>by cases hb;exact hbb))
   have hb2:=k2.blk hb1 (fun h=>h)
   have HB2:=hide hb2
   have HK2:=hide (Kp.trans (Kp.trans ((Kp.refl (nro E.ro) w).alloc _) (Kp.unguard ((H.out.guard ((Kp.refl no w).alloc _) (one w.heap.size) (by intro b hb;cases hb;constructor <;>simp)).nroRb k1))) k2.any)
   clear h1 hb1 hb2
   go_wp2_with fail
   refine HT1.out.mono ?_
   rintro x w3 ⟨⟨rfl,h3⟩,k3⟩
   have hb3:=((H1.out.quiet k2).nroBb k3).blk HB2.out (fun hn=>hn (.inr rfl))
   have HB3:=hide hb3
   have HE:=hide (emit_any h3 ⟨op,n,0,0,0⟩ (by omega))
   have HK3:=hide (HK2.out.trans (Kp.unguard ((H1.out.quiet k2).nroBb k3)))
   clear h3 k3 hb3 hx1 hxf1 hrun
   go_wp2_with fail
   refine HE.out.mono ?_
   rintro x w4 ⟨rfl,h4,k4⟩
   obtain⟨hx4,hxf4⟩:=cells_of (k4.blk HB3.out (fun hn=>hn (.inr rfl)))
   have HK4:=hide (HK3.out.trans k4.unguard)
   obtain⟨cap5,w5,hrun5,k5,hsz5,hbt5⟩:=conv_any w4 gv
   have HP:=hide (put_any (h4.quiet k5) hbt5 (by simp only;omega) (by omega))
   clear h4 k4
   go_wp2_with fail
   refine HP.out.mono ?_
   rintro x w6 ⟨rfl,h6,k6⟩
   have HK6:=hide ((HK4.out.trans k5.any).trans k6.unguard)
   have H6:=hide (h6.unguard (H.out.env.kp HK6.out))
   clear h6 k6
   go_wp2
   go_ret
   rw[HM.out]
   exact⟨⟨rfl,g,H6.out⟩,HK6.out⟩
end

end Go.Proofs.YtdeplgkhmebalaaGreatDoor

set_option linter.unusedSimpArgs false
set_option linter.unusedVariables false
set_option maxHeartbeats 3000000
set_option maxRecDepth 100000
namespace Go.Proofs.YtdeplgkhmebalaaGreatDoor
open Go.RowKit

def ptrs (g:Nat) (l:List Nat):List Value:=l.map fun k=> .pointer (some ⟨g,k*5,none⟩)
theorem ptrs_get (g:Nat) (l:List Nat) {k:Nat} (hk:k<l.length):(ptrs g l)[k]? =some (.pointer (some ⟨g,l.getD k 0*5,none⟩)):=by
 simp[ptrs,List.getD,List.getElem?_eq_getElem hk]
theorem all_take {p:Nat→Bool} (l:List Nat) (k:Nat) (hk:k<l.length):(l.take (k+1)).all p=((l.take k).all p&&p (l.getD k 0)):=by
 rw[List.take_add_one,List.all_append];simp[List.getElem?_eq_getElem hk]

theorem BytesAt.shape1 {w:World} {v:Value} {l:List UInt8} (h:BytesAt w v l): ∃ad cap,v= .slice ad l.length cap∧l.length≤cap:=h.shape

section
variable{E:Env} {g N:Nat} {w:World} {s:Bd}

theorem alike_any (h:BSt E g w s) {gv:Value} {l:List Nat} (hg:RowAt w gv 1 l.length (ptrs g l)) (hl: ∀k,k<l.length→l.getD k 0<s.blocks.length) (hll:l.length≤1000):
  Calls Tryz.prog 285 #[gv] w fun r w'=>r= .returned (.bool (alikeM s l))∧Kp no w w':=by
 have hM:alikeM s l=(l.take l.length).all (fun k=>valueM (s.bk k)==valueM (s.bk (l.getD 0 0))):=by rw[List.take_length];rfl
 generalize alikeM s l=R at *
 obtain⟨ad,cap,hv,hcap⟩:=hg.shape
 have hval:=fun W (kW:Kp no w W) q (hq:q<s.blocks.length)=>value_any (h.quiet kW) hq
 have HG:=hide hg
 have HL:=hide hl
 have HM:=hide hM
 have HV:=hide hval
 subst hv
 clear hg hl hM hval h
 go_enter Tryz.func285,Tryz.ntmps285
 go_wp2
 go_loopw [7] (fun kv wr=> ∃k:Nat,k≤l.length∧kv= .int .i64 k∧Kp no w wr∧(l.take k).all (fun k=>valueM (s.bk k)==valueM (s.bk (l.getD 0 0)))=true) (fun kv _=>l.length - (intOf kv).toNat)
 case atStart=>exact⟨0,by omega,rfl,Kp.refl _ _,rfl⟩
 case round=>
  obtain⟨k,hk,rfl,hkp,hall⟩:=hrel
  have HK:=hide hkp
  have HA:=hide hall
  clear hkp hall
  by_cases hkl:k<l.length
  ·obtain⟨a,o,cap',hv,_,hck⟩:=RowAt.get (HG.out.kp HK.out (fun _ _ h=>h)) (ptrs_get g l hkl)
   obtain⟨a2,o2,cap2,hv2,_,hc0⟩:=RowAt.get (HG.out.kp HK.out (fun _ _ h=>h)) (ptrs_get g l (show 0<l.length by omega))
   simp only[Value.slice.injEq]at hv hv2
   obtain⟨rfl,-,rfl⟩:=hv
   simp only[Option.some.injEq,Addr.mk.injEq,and_true,true_and]at hv2
   obtain⟨⟨rfl,rfl⟩,rfl⟩:=hv2
   rw[Nat.add_zero]at hc0
   have hq:=HL.out k hkl
   have hq0:=HL.out 0 (by omega)
   have hstep:=all_take (p:=fun k=>valueM (s.bk k)==valueM (s.bk (l.getD 0 0))) l k hkl
   rw[HA.out]at hstep
   simp only[Bool.true_and]at hstep
   generalize l.getD k 0=q at *
   generalize hq00:l.getD 0 0=q0 at *
   have HQ00:=hide hq00
   clear hq00
   have hl0:(0:Int)<(l.length:Int):=by omega
   have hl1:0<l.length:=by omega
   have hlne:l≠[]:=List.length_pos_iff.1 hl1
   have HVa:=hide (fun W (kW:Kp no w W) p (hp:p=q∨p=q0)=>HV.out W kW p (by rcases hp with e|e<;>rw[e]<;>assumption))
   have HSt:=hide hstep
   clear hstep
   generalize hbb:(valueM (s.bk q)==valueM (s.bk q0))=bb at *
   have HBb:=hide hbb
   clear hbb
   cases bb
   ·go_wp2_with fail
    go_region_held3 (fun w'=>w'.cell? ⟨a,o,none⟩=some (.pointer (some ⟨g,q0*5,none⟩))) (go_keep) (first |(go_at_call 288;refine(HVa.out wr.drew (HK.out.drew) _ (by first |exact .inl rfl |exact .inr rfl)).mono ?_;rintro e w1 ⟨⟨v1,rfl,hb1,-⟩,rfl⟩;obtain⟨ad1,cap1,rfl,-⟩:=BytesAt.shape1 hb1)|(go_at_call 287;refine(equal_any (l1:=valueM (s.bk q)) (l2:=valueM (s.bk q0)) (by assumption) (by assumption)).mono ?_;rintro e w3 ⟨rfl,rfl⟩;rw[HBb.out]))
    all_goals
     go_wp2
     go_ret
     refine⟨?_,HK.out.drew⟩
     rw[HM.out]
     have hf:(l.take l.length).all (fun k=>valueM (s.bk k)==valueM (s.bk q0))=false:=by
      rw[List.take_length]
      refine Bool.eq_false_iff.2 (fun e=> ?_)
      have h1:(l.take (k+1)).all (fun k=>valueM (s.bk k)==valueM (s.bk q0))=true:=List.all_eq_true.2 (fun x hx=>List.all_eq_true.1 e x (List.mem_of_mem_take hx))
      rw[HSt.out]at h1;cases h1
     rw[hf]
     rfl
   ·go_wp2_with fail
    go_region_held3 (fun w'=>w'.cell? ⟨a,o,none⟩=some (.pointer (some ⟨g,q0*5,none⟩))) (go_keep) (first |(go_at_call 288;refine(HVa.out wr.drew (HK.out.drew) _ (by first |exact .inl rfl |exact .inr rfl)).mono ?_;rintro e w1 ⟨⟨v1,rfl,hb1,-⟩,rfl⟩;obtain⟨ad1,cap1,rfl,-⟩:=BytesAt.shape1 hb1)|(go_at_call 287;refine(equal_any (l1:=valueM (s.bk q)) (l2:=valueM (s.bk q0)) (by assumption) (by assumption)).mono ?_;rintro e w3 ⟨rfl,rfl⟩;rw[HBb.out]))
    all_goals
     go_wp2
     go_roundw
     case rel=>exact⟨k+1,by omega,by go_num,HK.out.drew,HSt.out⟩
     case measure=>simp[intOf];omega
  ·obtain rfl :k=l.length:=by omega
   go_wp2
   go_ret
   exact⟨by rw[HM.out,HA.out];rfl,HK.out⟩
end

end Go.Proofs.YtdeplgkhmebalaaGreatDoor

set_option linter.unusedSimpArgs false
set_option linter.unusedVariables false
set_option maxHeartbeats 6000000
set_option maxRecDepth 100000
namespace Go.Proofs.YtdeplgkhmebalaaGreatDoor
open Go.RowKit

theorem info_pblock:(Tryz.prog.info? 357).map (fun i=>(i.zero,i.size,i.bytes))=some (some (.pointer none),1,8):=by kernel_rfl

def preL (l:List Nat) (m:Except (Int×Int) (List Nat×Bd)):Except (Int×Int) (List Nat×Bd):=
 match m with
 | .error e=> .error e
 | .ok (l',s')=> .ok (l++l',s')
theorem preL_step (c:Ctx) (l:List Nat) (r:Nat) (s:Bd):preL l (labelsM c (r+1) s)=(match labelM c s with
  | .error e=> .error e
  | .ok (k,s1)=>preL (l++[k]) (labelsM c r s1)):=by
 rw[labelsM]
 cases labelM c s with
 |error e=>rfl
 |ok x=>
  obtain⟨k,s1⟩:=x
  simp only
  cases labelsM c r s1 with
  |error e=>rfl
  |ok y=>obtain⟨l',s'⟩:=y;simp[preL]

section
variable{E:Env} {g N:Nat} {w:World} {s:Bd}

theorem BSt.guardRd (h:BSt E g w s) {W:World} {j:Nat} (k:Kp (one E.rb) w W) (hr:RSt W E.rb E.dv E.c.D j) (X:Nat→Prop) (hX: ∀b,X b→w.heap.size≤b∧b<W.heap.size):BSt (E.plus X) g W {s with i:=j}:=by
 obtain⟨role,sv,cv,kc,bs,h⟩:=h
 have h1:BStG E g w s (newRole role w.heap.size 0) sv cv kc bs:=h.renew 0
 have h2:=h1.setRd k hr
 refine⟨_,sv,cv,kc,bs,⟨⟨h2.env.base,fun b hb=> .inl (h2.env.dv b hb),?_,?_,h2.env.locals,fun b hb=> .inl (h2.env.lv b hb),h2.env.nf,h2.env.ng,h2.env.nl,h2.env.res⟩,h2.rd,h2.body,h2.mod,h2.stack,h2.blocks,h2.code,h2.eq,h2.waits,h2.results,h2.r1,h2.r2,h2.r3,h2.r4,h2.r5,h2.r6,h2.rw,h2.rr,?_,?_⟩⟩
 ·obtain⟨ad,cap,h3,h4,h5⟩:=h2.env.funcs
  refine⟨ad,cap,h3,h4,fun j hj=> ?_⟩
  obtain⟨a,o,pv,rv,p1,p2,p3,p4,p5,p6,p7,p8⟩:=h5 j hj
  exact⟨a,o,pv,rv,p1,.inl p2,p3,p4,p5,fun b hb=> .inl (p6 b hb),p7,fun b hb=> .inl (p8 b hb)⟩
 ·obtain⟨ad,cap,h3,h4,h5⟩:=h2.env.gl
  refine⟨ad,cap,h3,h4,fun j hj=> ?_⟩
  obtain⟨a,o,p1,p2,p3,p4⟩:=h5 j hj
  exact⟨a,o,p1,.inl p2,p3,p4⟩
 ·intro b hb
  rcases hb with hb|hb
  ·exact h2.ro b hb
  ·exact newRole_new (hX b hb).1
 ·intro b hb
  rcases hb with hb|hb
  ·exact h2.lt b hb
  ·exact(hX b hb).2

theorem BSt.dvLt (h:BSt E g w s) (b:Nat) (hb:E.dv.ownBlock=some b):b<w.heap.size:=by
 obtain⟨role,sv,cv,kc,bs,h⟩:=h
 exact h.lt b (h.env.dv b hb)

theorem table_any (h:BSt E g w s) (z:Sz N s) (hN:N≤400000) (hne:s.blocks≠[]):Calls Tryz.prog 259 #[ptrTo E.bb] w fun r w'=>Done E w w' (tableM E.c s) r∧Kp (nro E.ro) w w':=by
 have hM:tableM E.c s=(match belowM E.c.D 17 s.i with
  | .error e=> .error e
  | .ok (n,j)=>
   match labelsM E.c (n+1) {s with i:=j}with
   | .error e=> .error e
   | .ok (l,s1)=>
    match takeM s1 127 with
    |none=>wrongM s
    |some s2=>
     match carriesM s2 (l.getD n 0)with
     |none=>wrongM s
     |some s3=>if alikeM s3 l then .ok {jumpAll l (emitM s3 ⟨14,n,0,0,0⟩)with closed:=true}else wrongM s):=rfl
 generalize tableM E.c s=R at *
 have hst:=z.st
 have hcd:=z.cd
 have hbe:=below_any h.rd 17 (by decide) (by decide)
 have hlt:=fun n j=>below_lt (D:=E.c.D) (lim:=17) (i:=s.i) (n:=n) (j:=j)
 generalize belowM E.c.D 17 s.i=Q at *
 obtain⟨i0,hi0,hz0,hz1,hz2⟩:=info_parts info_pblock
 have H:=hide h
 obtain⟨sv,kc,hbo,-⟩:=h.bodyAt
 obtain⟨hc,hf⟩:=cells_of hbo
 have hlr:E.rb<w.heap.size:=lt_of_blk h.rd.blk
 have HBe:=hide hbe
 clear h hbe hbo
 have HMq:=hide hM
 clear hM
 match Q,HMq,HBe,hlt with
 | .error e,HMq,HBe,_=>
  have hM:=HMq.out
  have HM:=hide hM
  clear hM
  go_enter Tryz.func259,Tryz.ntmps259
  go_wp2_with fail
  refine HBe.out.mono ?_
  rintro r w1 ⟨⟨fv,j,rfl,⟨fb,rfl,hfb,hfo⟩,h1⟩,k1⟩
  have HF:=hide hfo
  clear hfo h1
  go_wp2
  go_ret
  rw[HM.out]
  exact⟨⟨ptrTo fb,rfl,fb,rfl,hfb,HF.out⟩,H.out.nroRb k1⟩
 | .ok (n,j),HMq,HBe,hlt=>
  have hM:=HMq.out
  have hn:=(hlt n j rfl).1
  clear hlt
  simp only at hM
  have HM:=hide hM
  clear hM
  go_enter Tryz.func259,Tryz.ntmps259
  go_wp2_with fail
  refine HBe.out.mono ?_
  rintro r w1 ⟨⟨v,rfl,rfl,h1⟩,k1⟩
  have H1:=hide h1
  have HK1:=hide k1
  have hsz1:=k1.size
  clear h1 k1 hc hf
  go_wp2
  go_loopw [5,24] (fun gv kv wr=> ∃(k jj:Nat) (l:List Nat),k≤n+1∧kv= .int .i64 k∧l.length=k∧wr.ownsRow w.heap.size 357 1 gv k (ptrs g l)∧Kp (one E.rb) w wr∧RSt wr E.rb E.dv E.c.D jj∧(∀q,q<k→l.getD q 0<s.blocks.length)∧labelsM E.c (n+1) {s with i:=j}=preL l (labelsM E.c (n+1 -k) {s with i:=jj})) (fun _ kv _=>n+1 - (intOf kv).toNat)
  case atStart=>
   refine⟨0,j,[],by omega,rfl,rfl,⟨rfl,.inr ⟨w1.heap.size,0,#[],rfl,by omega,heap_alloc_new _ _,Nat.le_refl _,by simp[maxLen],rfl,rfl⟩⟩,HK1.out.alloc _,H1.out.kp ((Kp.refl no w1).alloc _) (fun h=>h) (fun _ _ _ h=>h),fun q hq=>by omega,?_⟩
   cases labelsM E.c (n+1) {s with i:=j}with
   |error e=>rfl
   |ok x=>rfl
  case round=>
   obtain⟨k,jj,l,hk,rfl,hlk,hown,hkp,hrd,hlq,hlab⟩:=hrel
   obtain⟨adg,capg,rfl⟩:=own_shape hown
   have HO:=hide hown
   have HK:=hide hkp
   have HR:=hide hrd
   have HLq:=hide hlq
   have HLa:=hide hlab
   have HLk:=hide hlk
   have hszr:=hkp.size
   clear hown hkp hrd hlq hlab hlk
   by_cases hkn:k<n+1
   ·have hla:=label_any (H.out.read HK.out HR.out) hne z.bl
    have hlb:=fun q s1=>label_ok (c:=E.c) (s:={s with i:=jj}) (k:=q) (s1:=s1) hne
    have hL:=HLa.out
    rw[show n+1 -k=(n -k)+1 by omega,preL_step]at hL
    generalize labelM E.c {s with i:=jj}=Q2 at *
    have HLb:=hide hla
    clear hla
    match Q2,hL,HLb,hlb with
    | .error e,hL,HLb,_=>
     have HL:=hide hL
     clear hL
     go_wp2_with fail
     refine HLb.out.mono ?_
     rintro r w2 ⟨⟨fv,rfl,fb,rfl,hfb,hfo⟩,k2⟩
     have HF:=hide hfo
     clear hfo
     go_wp2
     go_ret
     rw[HM.out,HL.out]
     exact⟨⟨ptrTo fb,rfl,fb,rfl,by omega,HF.out⟩,H.out.nroRb (HK.out.trans k2)⟩
    | .ok (q,s1),hL,HLb,hlb=>
     obtain⟨hq,j2,hs1⟩:=hlb q s1 rfl
     subst hs1
     have HL:=hide hL
     clear hL hlb
     go_wp2_with fail
     refine HLb.out.mono ?_
     rintro r w2 ⟨⟨rfl,h2⟩,k2⟩
     have HR2:=hide h2.rd
     have ho2:=k2.own HO.out (fun b hb (e:b=E.rb)=>by have :=own_new HO.out b hb;omega)
     have HO2:=hide ho2
     have HK2:=hide (HK.out.trans k2)
     have hsz2:=k2.size
     clear h2 k2 ho2
     go_wp2_with(at_builtin;refine wpList_append_at _ rfl _ _ 363 rfl w.heap.size 357 i0 (.pointer none) 1 8 Tryz.underlying363 hi0 hz0 hz1 hz2 rfl (by decide) _ _ _ rfl (HO2.out.alloc _) _ 1 [.pointer (some ⟨g,q*5,none⟩)] rfl (RowAt.new _ _ _) (one_oneCell rfl) ?c3 ?c4 ?c5 ?_)
     case c3=>unfold maxLen;omega
     case c4=>omega
     case c5=>simp;omega
     intro v3 w3 hown3 hgrow3 hat3
     obtain⟨ad3,cap3,rfl⟩:=own_shape hown3
     have HO3:=hide hown3
     have HK3:=hide ((HK2.out.alloc _).grown hgrow3 (fun b hb=> .inr (own_new HO2.out b hb)))
     have HR3:=hide (HR2.out.kp (((Kp.refl (fun b=>w.heap.size≤b) w2).alloc _).grown hgrow3 (fun b hb=> .inl (own_new HO2.out b hb))) (fun(e:w.heap.size≤E.rb)=>by omega) (fun b hb hlt2 (e:w.heap.size≤b)=>by have :=H.out.dvLt b hb;omega))
     clear hown3 hgrow3 hat3
     go_wp2
     go_roundw
     case rel=>
      refine⟨k+1,j2,l++[q],by omega,by go_num,by simp[HLk.out],by simpa[ptrs]using HO3.out,HK3.out,HR3.out,?_,?_⟩
      ·intro p hp
       rcases Nat.lt_or_ge p k with e|e
       ·have :=HLq.out p e
        rw[List.getD,List.getElem?_append_left (by rw[HLk.out];exact e)];exact this
       ·obtain rfl :p=k:=by omega
        rw[List.getD,List.getElem?_append_right (by rw[HLk.out];omega),HLk.out];simpa using hq
      ·rw[HL.out,show n+1 - (k+1)=n -k by omega]
     case measure=>simp[intOf];omega
   ·obtain rfl :k=n+1:=by omega
    obtain⟨X,hX⟩: ∃X:Nat→Prop,X=fun b=>w.heap.size≤b∧b<wr.heap.size:=⟨_,rfl⟩
    have hG:BSt (E.plus X) g wr {s with i:=jj}:=H.out.guardRd HK.out HR.out X (fun b hb=>by rw[hX]at hb;exact hb)
    have hlab:=HLa.out
    rw[Nat.sub_self]at hlab
    have hM:=HM.out
    rw[show labelsM E.c (n+1) {s with i:=j}= .ok (l,{s with i:=jj})by rw[hlab,labelsM,preL,List.append_nil]]at hM
    simp only at hM
    have hgX: ∀b,(Value.slice adg (n+1) capg).ownBlock=some b→X b:=fun b hb=>by rw[hX];exact⟨own_new HO.out b hb,own_lt HO.out hb⟩
    have hrow:RowAt wr (.slice adg (n+1) capg) 1 l.length (ptrs g l):=by rw[HLk.out];exact RowAt.own HO.out
    have hgc: ∀W,RowAt W (.slice adg (n+1) capg) 1 l.length (ptrs g l)→ ∀q,q<n+1→ ∃a o,adg=some ⟨a,o,none⟩∧n+1≤capg∧W.cell? ⟨a,o+q,none⟩=some (.pointer (some ⟨g,l.getD q 0*5,none⟩)):=by
     intro W hW q hq
     obtain⟨a,o,cap',hv,hc',hce⟩:=RowAt.get hW (ptrs_get g l (show q<l.length by rw[HLk.out];exact hq))
     simp only[Value.slice.injEq]at hv
     obtain⟨rfl,h2,rfl⟩:=hv
     exact⟨a,o,rfl,by omega,hce⟩
    have hbbX: ∀b,(Value.slice adg (n+1) capg).ownBlock=some b→b≠E.bb:=fun b hb e=>by
     have h1:=own_new HO.out b hb
     obtain⟨sv,kc,hbo,-⟩:=H.out.bodyAt
     have h2:=lt_of_blk hbo
     omega
    have zj:Sz N {s with i:=jj}:=z.read jj s.pos s.closed
    have hta:=take_any' hG hne z.bl (by simp only;omega) 127
    have hzz: ∀s2,takeM {s with i:=jj} 127=some s2→Sz N s2∧Sunk {s with i:=jj} s2:=fun s2 h2=>⟨take_sz zj h2,take_sunk h2⟩
    generalize takeM {s with i:=jj} 127=Q2 at *
    have HT:=hide hta
    have HG:=hide hG
    have HgX:=hide hgX
    have HRo:=hide hrow
    have HGc:=hide hgc
    have HBX:=hide hbbX
    have hlq:=HLq.out n (by omega)
    have HEk:=hide (H.out.env)
    clear hta hG hgX hrow hgc hbbX hlab zj HM HLa hX
    obtain⟨a,o,had,hcapg,hce0⟩:=HGc.out wr HRo.out n (by omega)
    subst had
    have HMq:=hide hM
    clear hM
    match Q2,HMq,HT,hzz with
    |none,HMq,HT,_=>
     have hM:=HMq.out
     have HM:=hide hM
     clear hM
     go_wp2_with fail
     refine HT.out.mono ?_
     rintro r w5 ⟨⟨rfl,s2,h1,hs2⟩,k5⟩
     have hp:s2.pos=s.pos:=hs2.pos
     have HK:=hide ((H.out.nroRb HK.out).trans (HG.out.nroBb k5).unguard)
     clear hs2
     have HP:=hide hp
     have HW:=hide (wrong_any h1)
     clear h1 hp
     go_wp2_with fail
     refine HW.out.mono ?_
     rintro e w8 ⟨⟨fv,rfl,fb,rfl,hfb,hfo⟩,k8⟩
     have HF:=hide hfo
     clear hfo
     go_wp2
     go_ret
     rw[HM.out]
     exact⟨⟨ptrTo fb,rfl,fb,rfl,by have :=HK.out.size;omega,by rw[←HP.out];exact HF.out⟩,HK.out.trans k8.any⟩
    |some s2,HMq,HT,hzz=>
     have hM:=HMq.out
     have HZ:=hide (hzz s2 rfl)
     clear hzz
     have hz2:=HZ.out.1.st
     have hq2:l.getD n 0<s2.blocks.length:=by rw[HZ.out.2.len];exact hlq
     have hca:=fun W (h2:BSt (E.plus X) g W s2)=>carries_any h2 HZ.out.1.bl (by omega) (k:=l.getD n 0) hq2 (value_len (HZ.out.1.wt _ hq2).2.2.1)
     have hcz: ∀s3,carriesM s2 (l.getD n 0)=some s3→Sz N s3∧Sunk s2 s3:=fun s3 h3=>carries_sz HZ.out.1 h3
     simp only at hM
     generalize carriesM s2 (l.getD n 0)=Q3 at *
     have hce5: ∀W,Kp (one E.bb) wr W→W.cell? ⟨a,o+n,none⟩=some (.pointer (some ⟨g,l.getD n 0*5,none⟩)):=fun W kW=>kW.cell (p:=⟨a,o+n,none⟩) hce0 (fun e=>HBX.out a rfl e)
     have HCe5:=hide hce5
     have HC:=hide hca
     clear hca hce5
     have hi1:(n:Int)<((n:Int)+1):=by omega
     have HMq:=hide hM
     clear hM
     match Q3,HMq,HC,hcz with
     |none,HMq,HC,_=>
      have hM:=HMq.out
      have HM:=hide hM
      clear hM
      go_wp2_with fail
      refine HT.out.mono ?_
      rintro r w5 ⟨⟨rfl,h5⟩,k5⟩
      have HC1:=hide (HC.out w5 h5)
      have hce:=HCe5.out w5 k5
      have HK5:=hide ((H.out.nroRb HK.out).trans (HG.out.nroBb k5).unguard)
      clear h5
      go_wp2_with fail
      refine HC1.out.mono ?_
      rintro r w6 ⟨⟨rfl,s3,h1,hp3⟩,k6⟩
      have hp:s3.pos=s.pos:=hp3.trans HZ.out.2.pos
      have HK:=hide (HK5.out.trans k6.unguard)
      clear hp3
      have HP:=hide hp
      have HW:=hide (wrong_any h1)
      clear h1 hp
      go_wp2_with fail
      refine HW.out.mono ?_
      rintro e w8 ⟨⟨fv,rfl,fb,rfl,hfb,hfo⟩,k8⟩
      have HF:=hide hfo
      clear hfo
      go_wp2
      go_ret
      rw[HM.out]
      exact⟨⟨ptrTo fb,rfl,fb,rfl,by have :=HK.out.size;omega,by rw[←HP.out];exact HF.out⟩,HK.out.trans k8.any⟩
     |some s3,HMq,HC,hcz=>
      have hM:=HMq.out
      have HZ3:=hide (hcz s3 rfl)
      have hz3:=HZ3.out.1.st
      have hc3:=HZ3.out.1.cd
      clear hcz
      simp only at hM
      have hbl3:s3.blocks.length=s.blocks.length:=by rw[HZ3.out.2.len,HZ.out.2.len]
      have hal:=fun W (h3:BSt (E.plus X) g W s3) (hr:RowAt W (.slice (some ⟨a,o,none⟩) (n+1) capg) 1 l.length (ptrs g l))=>alike_any h3 hr (fun q hq=>by rw[hbl3];exact HLq.out q (by rw[HLk.out]at hq;exact hq)) (by rw[HLk.out];omega)
      generalize halk:alikeM s3 l=al at *
      clear halk
      have HAl:=hide hal
      clear hal
      cases al with
      |false=>
       have HM:=hide hM
       clear hM
       go_wp2_with fail
       refine HT.out.mono ?_
       rintro r w5 ⟨⟨rfl,h5⟩,k5⟩
       have HC1:=hide (HC.out w5 h5)
       have hce:=HCe5.out w5 k5
       have HK5:=hide ((H.out.nroRb HK.out).trans (HG.out.nroBb k5).unguard)
       have HKx:=hide (HG.out.nroBb k5)
       clear h5
       go_wp2_with fail
       refine HC1.out.mono ?_
       rintro r w6 ⟨⟨rfl,h6⟩,k6⟩
       have HA1:=hide (HAl.out w6 h6 (HRo.out.kp (HKx.out.trans k6) (fun b hb hn=>hn (.inr (HgX.out b hb)))))
       have H6:=hide h6
       have HK6:=hide (HK5.out.trans k6.unguard)
       clear h6
       go_wp2_with fail
       refine HA1.out.mono ?_
       rintro r w7 ⟨rfl,k7⟩
       have h1:=H6.out.quiet k7
       have hp:s3.pos=s.pos:=HZ3.out.2.pos.trans HZ.out.2.pos
       have HK:=hide (HK6.out.trans k7.any)
       have HP:=hide hp
       have HW:=hide (wrong_any h1)
       clear h1 hp
       go_wp2_with fail
       refine HW.out.mono ?_
       rintro e w8 ⟨⟨fv,rfl,fb,rfl,hfb,hfo⟩,k8⟩
       have HF:=hide hfo
       clear hfo
       go_wp2
       go_ret
       rw[HM.out]
       exact⟨⟨ptrTo fb,rfl,fb,rfl,by have :=HK.out.size;omega,by rw[←HP.out];exact HF.out⟩,HK.out.trans k8.any⟩
      |true=>
       have HM:=hide hM
       clear hM
       go_wp2_with fail
       refine HT.out.mono ?_
       rintro r w5 ⟨⟨rfl,h5⟩,k5⟩
       have HC1:=hide (HC.out w5 h5)
       have hce:=HCe5.out w5 k5
       have HK5:=hide (HG.out.nroBb k5)
       clear h5
       go_wp2_with fail
       refine HC1.out.mono ?_
       rintro r w6 ⟨⟨rfl,h6⟩,k6⟩
       have HA1:=hide (HAl.out w6 h6 (HRo.out.kp (HK5.out.trans k6) (fun b hb hn=>hn (.inr (HgX.out b hb)))))
       have H6:=hide h6
       have HK6:=hide (HK5.out.trans k6)
       clear h6
       go_wp2_with fail
       refine HA1.out.mono ?_
       rintro r w7 ⟨rfl,k7⟩
       have HEm:=hide (emit_any (H6.out.quiet k7) ⟨14,n,0,0,0⟩ (by omega))
       have HK7:=hide (HK6.out.trans k7.any)
       clear k7
       go_wp2_with fail
       refine HEm.out.mono ?_
       rintro r w8 ⟨rfl,h8,k8⟩
       have HK8:=hide (HK7.out.trans k8)
       have H8:=hide h8
       clear h8 k8
       have hjt: ∀k,k<l.length→jumpAll (l.take (k+1)) (emitM s3 ⟨14,n,0,0,0⟩)=jumpM (jumpAll (l.take k) (emitM s3 ⟨14,n,0,0,0⟩)) 12 (l.getD k 0):=fun k hk=>by
        rw[List.take_add_one,jumpAll,List.foldl_append];simp[List.getElem?_eq_getElem hk,jumpAll]
       have hj0:jumpAll (l.take 0) (emitM s3 ⟨14,n,0,0,0⟩)=emitM s3 ⟨14,n,0,0,0⟩:=rfl
       have hjl:jumpAll (l.take (n+1)) (emitM s3 ⟨14,n,0,0,0⟩)=jumpAll l (emitM s3 ⟨14,n,0,0,0⟩):=by rw[←HLk.out,List.take_length]
       have hze:=emit_sz HZ3.out.1 ⟨14,n,0,0,0⟩
       have HJt:=hide hjt
       have HJ0:=hide hj0
       have HJl:=hide hjl
       have HZe:=hide hze
       have HHH:Hid (BSt (E.plus X) g w8 (emitM s3 ⟨14,n,0,0,0⟩)):=H8
       have hble:(emitM s3 ⟨14,n,0,0,0⟩).blocks.length=s.blocks.length:=hbl3
       have HBe3:=hide hble
       have HRo8:=hide (HRo.out.kp HK8.out (fun b hb hn=>hn (.inr (HgX.out b hb))))
       have HKa:=hide ((H.out.nroRb HK.out).trans HK8.out.unguard)
       clear hjt hj0 hjl hze H8 hble
       generalize emitM s3 ⟨14,n,0,0,0⟩=sE at *
       go_wp2
       go_loopw [65] (fun kv w9=> ∃k:Nat,k≤n+1∧kv= .int .i64 k∧BSt (E.plus X) g w9 (jumpAll (l.take k) sE)∧Kp (nro (E.plus X).ro) w8 w9∧Sz (N+1+k) (jumpAll (l.take k) sE)∧(jumpAll (l.take k) sE).blocks.length=s.blocks.length) (fun kv _=>n+1 - (intOf kv).toNat)
       case atStart=>exact⟨0,by omega,rfl,by rw[HJ0.out];exact HHH.out,Kp.refl _ _,by rw[HJ0.out];exact HZe.out,by rw[HJ0.out];exact HBe3.out⟩
       case round=>
        obtain⟨k,hk,rfl,h9,k9,z9,b9⟩:=hrel
        have H9:=hide h9
        have HK9:=hide k9
        have HZ9:=hide z9
        have HB9:=hide b9
        clear h9 k9 z9 b9
        by_cases hkn2:k<n+1
        ·obtain⟨a2,o2,had2,-,hce2⟩:=HGc.out wr (HRo8.out.kp HK9.out (fun b hb hn=>hn (.inr (HgX.out b hb)))) k hkn2
         cases had2
         have hqk:l.getD k 0<(jumpAll (l.take k) sE).blocks.length:=by rw[HB9.out];exact HLq.out k hkn2
         have hjs:=jump_same (s:=jumpAll (l.take k) sE) 12 hqk
         have hjz:=jump_sz HZ9.out 12 hqk
         have hjt:=HJt.out k (by rw[HLk.out];exact hkn2)
         rw[←hjt]at hjs hjz
         have hju:=jump_any H9.out HZ9.out (by omega) hqk 12
         rw[←hjt]at hju
         have HJu:=hide hju
         have HJs:=hide hjs.2.1
         have HJz:=hide hjz
         clear hju hjs hjz hjt hqk
         generalize l.getD k 0=q at *
         go_wp2_with fail
         refine HJu.out.mono ?_
         rintro r w10 ⟨rfl,h10,k10⟩
         have H10:=hide h10
         have HK10:=hide (HK9.out.trans k10)
         clear h10 k10
         go_wp2
         go_roundw
         case rel=>exact⟨k+1,by omega,by go_num,H10.out,HK10.out,HJz.out,HJs.out.trans HB9.out⟩
         case measure=>simp[intOf];omega
        ·obtain rfl :k=n+1:=by omega
         have h9:=H9.out
         rw[HJl.out]at h9
         obtain⟨sv9,kc9,hbo9,-⟩:=h9.bodyAt
         obtain⟨hc9,hf9⟩:=cells_of hbo9
         have H9':=hide h9
         clear h9 hbo9
         go_wp2
         go_ret
         rw[HM.out]
         obtain⟨h11,k11⟩:=closed_end H9'.out true
         have k12:=HKa.out.trans (HK9.out.trans (H9'.out.nroBb k11)).unguard
         exact⟨⟨rfl,g,h11.unguard (HEk.out.kp k12)⟩,k12⟩
end

end Go.Proofs.YtdeplgkhmebalaaGreatDoor

set_option linter.unusedSimpArgs false
set_option linter.unusedVariables false
set_option maxHeartbeats 1000000
set_option maxRecDepth 100000
namespace Go.Proofs.YtdeplgkhmebalaaGreatDoor
open Go.RowKit

section
variable{E:Env} {g N:Nat} {w:World} {s:Bd}

theorem turn_any (h:BSt E g w s) (z:Sz N s) (hN:N≤400000) (hne:s.blocks≠[]):Calls Tryz.prog 256 #[ptrTo E.bb] w fun r w'=>Done E w w' (turnM s) r∧Kp (nro E.ro) w w':=by
 by_cases h1:s.top.kind≠3∨fullM s (s.blocks.length -1)=false
 ·have :turnM s=wrongM s:=by unfold turnM;rw[if_pos h1]
  rw[this];exact turn_no h z (by omega) hne h1
 ·refine turn_ok h z (by omega) hne ?_ ?_
  ·exact Classical.byContradiction (fun e=>h1 (.inl e))
  ·cases hf:fullM s (s.blocks.length -1)
   ·exact absurd (.inr hf) h1
   ·rfl
theorem end_any (h:BSt E g w s) (z:Sz N s) (hN:N≤400000) (hne:s.blocks≠[]):Calls Tryz.prog 257 #[ptrTo E.bb] w fun r w'=>Done E w w' (endM s) r∧Kp (nro E.ro) w w':=by
 by_cases h1:fullM s (s.blocks.length -1)=false∨(s.top.kind=3∧s.top.result≠[])
 ·have :endM s=wrongM s:=by unfold endM;rw[if_pos h1]
  rw[this];exact end_no h z (by omega) hne h1
 ·have hf:fullM s (s.blocks.length -1)=true:=by
   cases hf:fullM s (s.blocks.length -1)
   ·exact absurd (.inl hf) h1
   ·rfl
  by_cases h3:s.top.kind=3
  ·exact end_ok_if h z (by omega) hne hf ⟨h3,Classical.byContradiction (fun e=>h1 (.inr ⟨h3,e⟩))⟩
  ·by_cases h0:s.top.kind=0
   ·exact end_ok_whole h z (by omega) hne hf h0
   ·exact end_ok_other h z (by omega) hne hf ⟨h3,h0⟩
theorem open_any (h:BSt E g w s) (z:Sz N s) (hN:N≤400000) (hne:s.blocks≠[]) (op:UInt8):Calls Tryz.prog 255 #[ptrTo E.bb,.int .u8 op.toNat] w fun r w'=>Done E w w' (openM E.c op s) r∧Kp (nro E.ro) w w':=by
 by_cases h4:op=4
 ·exact open_b h z (by omega) hne op h4
 ·exact open_a h z (by omega) hne op h4

theorem special_0 (h:BSt E g w s) (z:Sz N s) (hN:N≤400000) (_hne:s.blocks≠[]) (op:UInt8) (hop:op=0):Calls Tryz.prog 212 #[ptrTo E.bb,.int .u8 op.toNat] w fun r w'=>Done E w w' (specialM E.c op s) r∧Kp (nro E.ro) w w':=by
 have hM:specialM E.c op s=stopM s:=by rw[hop];rfl
 rw[hM]
 have hcon:=stop_any h z (by omega)
 have q0:((op.toNat:Int)==0)=true:=by rw[hop];rfl
 have q2:((op.toNat:Int)==2)=false:=by rw[hop];rfl
 have q3:((op.toNat:Int)==3)=false:=by rw[hop];rfl
 have q4:((op.toNat:Int)==4)=false:=by rw[hop];rfl
 have q5:((op.toNat:Int)==5)=false:=by rw[hop];rfl
 have q11:((op.toNat:Int)==11)=false:=by rw[hop];rfl
 have q12:((op.toNat:Int)==12)=false:=by rw[hop];rfl
 have q13:((op.toNat:Int)==13)=false:=by rw[hop];rfl
 have q14:((op.toNat:Int)==14)=false:=by rw[hop];rfl
 have q15:((op.toNat:Int)==15)=false:=by rw[hop];rfl
 have q16:((op.toNat:Int)==16)=false:=by rw[hop];rfl
 have q26:((op.toNat:Int)==26)=false:=by rw[hop];rfl
 have q27:((op.toNat:Int)==27)=false:=by rw[hop];rfl
 have q35:((op.toNat:Int)==35)=false:=by rw[hop];rfl
 have q36:((op.toNat:Int)==36)=false:=by rw[hop];rfl
 generalize stopM s=R at *
 have HC:=hide hcon
 clear h hcon hM hop
 cases R with
 |ok s1=>
  go_enter Tryz.func212,Tryz.ntmps212
  go_wp2_with fail
  refine HC.out.mono ?_
  rintro r w1 ⟨⟨rfl,g1,h1⟩,k1⟩
  have H1:=hide h1
  clear h1
  go_wp2
  go_ret
  exact⟨⟨rfl,g1,H1.out⟩,k1⟩
 |error e=>
  go_enter Tryz.func212,Tryz.ntmps212
  go_wp2_with fail
  refine HC.out.mono ?_
  rintro r w1 ⟨⟨fv,rfl,hf⟩,k1⟩
  have HF:=hide hf
  clear hf
  go_wp2
  go_ret
  exact⟨⟨fv,rfl,HF.out⟩,k1⟩

theorem special_2 (h:BSt E g w s) (z:Sz N s) (hN:N≤400000) (hne:s.blocks≠[]) (op:UInt8) (hop:op=2):Calls Tryz.prog 212 #[ptrTo E.bb,.int .u8 op.toNat] w fun r w'=>Done E w w' (specialM E.c op s) r∧Kp (nro E.ro) w w':=by
 have hM:specialM E.c op s=openM E.c op s:=by rw[hop];rfl
 rw[hM]
 have hcon:=open_any h z hN hne op
 have q0:((op.toNat:Int)==0)=false:=by rw[hop];rfl
 have q2:((op.toNat:Int)==2)=true:=by rw[hop];rfl
 have q3:((op.toNat:Int)==3)=false:=by rw[hop];rfl
 have q4:((op.toNat:Int)==4)=false:=by rw[hop];rfl
 have q5:((op.toNat:Int)==5)=false:=by rw[hop];rfl
 have q11:((op.toNat:Int)==11)=false:=by rw[hop];rfl
 have q12:((op.toNat:Int)==12)=false:=by rw[hop];rfl
 have q13:((op.toNat:Int)==13)=false:=by rw[hop];rfl
 have q14:((op.toNat:Int)==14)=false:=by rw[hop];rfl
 have q15:((op.toNat:Int)==15)=false:=by rw[hop];rfl
 have q16:((op.toNat:Int)==16)=false:=by rw[hop];rfl
 have q26:((op.toNat:Int)==26)=false:=by rw[hop];rfl
 have q27:((op.toNat:Int)==27)=false:=by rw[hop];rfl
 have q35:((op.toNat:Int)==35)=false:=by rw[hop];rfl
 have q36:((op.toNat:Int)==36)=false:=by rw[hop];rfl
 generalize openM E.c op s=R at *
 have HC:=hide hcon
 clear h hcon hM hop
 cases R with
 |ok s1=>
  go_enter Tryz.func212,Tryz.ntmps212
  go_wp2_with fail
  refine HC.out.mono ?_
  rintro r w1 ⟨⟨rfl,g1,h1⟩,k1⟩
  have H1:=hide h1
  clear h1
  go_wp2
  go_ret
  exact⟨⟨rfl,g1,H1.out⟩,k1⟩
 |error e=>
  go_enter Tryz.func212,Tryz.ntmps212
  go_wp2_with fail
  refine HC.out.mono ?_
  rintro r w1 ⟨⟨fv,rfl,hf⟩,k1⟩
  have HF:=hide hf
  clear hf
  go_wp2
  go_ret
  exact⟨⟨fv,rfl,HF.out⟩,k1⟩

theorem special_3 (h:BSt E g w s) (z:Sz N s) (hN:N≤400000) (hne:s.blocks≠[]) (op:UInt8) (hop:op=3):Calls Tryz.prog 212 #[ptrTo E.bb,.int .u8 op.toNat] w fun r w'=>Done E w w' (specialM E.c op s) r∧Kp (nro E.ro) w w':=by
 have hM:specialM E.c op s=openM E.c op s:=by rw[hop];rfl
 rw[hM]
 have hcon:=open_any h z hN hne op
 have q0:((op.toNat:Int)==0)=false:=by rw[hop];rfl
 have q2:((op.toNat:Int)==2)=false:=by rw[hop];rfl
 have q3:((op.toNat:Int)==3)=true:=by rw[hop];rfl
 have q4:((op.toNat:Int)==4)=false:=by rw[hop];rfl
 have q5:((op.toNat:Int)==5)=false:=by rw[hop];rfl
 have q11:((op.toNat:Int)==11)=false:=by rw[hop];rfl
 have q12:((op.toNat:Int)==12)=false:=by rw[hop];rfl
 have q13:((op.toNat:Int)==13)=false:=by rw[hop];rfl
 have q14:((op.toNat:Int)==14)=false:=by rw[hop];rfl
 have q15:((op.toNat:Int)==15)=false:=by rw[hop];rfl
 have q16:((op.toNat:Int)==16)=false:=by rw[hop];rfl
 have q26:((op.toNat:Int)==26)=false:=by rw[hop];rfl
 have q27:((op.toNat:Int)==27)=false:=by rw[hop];rfl
 have q35:((op.toNat:Int)==35)=false:=by rw[hop];rfl
 have q36:((op.toNat:Int)==36)=false:=by rw[hop];rfl
 generalize openM E.c op s=R at *
 have HC:=hide hcon
 clear h hcon hM hop
 cases R with
 |ok s1=>
  go_enter Tryz.func212,Tryz.ntmps212
  go_wp2_with fail
  refine HC.out.mono ?_
  rintro r w1 ⟨⟨rfl,g1,h1⟩,k1⟩
  have H1:=hide h1
  clear h1
  go_wp2
  go_ret
  exact⟨⟨rfl,g1,H1.out⟩,k1⟩
 |error e=>
  go_enter Tryz.func212,Tryz.ntmps212
  go_wp2_with fail
  refine HC.out.mono ?_
  rintro r w1 ⟨⟨fv,rfl,hf⟩,k1⟩
  have HF:=hide hf
  clear hf
  go_wp2
  go_ret
  exact⟨⟨fv,rfl,HF.out⟩,k1⟩

theorem special_4 (h:BSt E g w s) (z:Sz N s) (hN:N≤400000) (hne:s.blocks≠[]) (op:UInt8) (hop:op=4):Calls Tryz.prog 212 #[ptrTo E.bb,.int .u8 op.toNat] w fun r w'=>Done E w w' (specialM E.c op s) r∧Kp (nro E.ro) w w':=by
 have hM:specialM E.c op s=openM E.c op s:=by rw[hop];rfl
 rw[hM]
 have hcon:=open_any h z hN hne op
 have q0:((op.toNat:Int)==0)=false:=by rw[hop];rfl
 have q2:((op.toNat:Int)==2)=false:=by rw[hop];rfl
 have q3:((op.toNat:Int)==3)=false:=by rw[hop];rfl
 have q4:((op.toNat:Int)==4)=true:=by rw[hop];rfl
 have q5:((op.toNat:Int)==5)=false:=by rw[hop];rfl
 have q11:((op.toNat:Int)==11)=false:=by rw[hop];rfl
 have q12:((op.toNat:Int)==12)=false:=by rw[hop];rfl
 have q13:((op.toNat:Int)==13)=false:=by rw[hop];rfl
 have q14:((op.toNat:Int)==14)=false:=by rw[hop];rfl
 have q15:((op.toNat:Int)==15)=false:=by rw[hop];rfl
 have q16:((op.toNat:Int)==16)=false:=by rw[hop];rfl
 have q26:((op.toNat:Int)==26)=false:=by rw[hop];rfl
 have q27:((op.toNat:Int)==27)=false:=by rw[hop];rfl
 have q35:((op.toNat:Int)==35)=false:=by rw[hop];rfl
 have q36:((op.toNat:Int)==36)=false:=by rw[hop];rfl
 generalize openM E.c op s=R at *
 have HC:=hide hcon
 clear h hcon hM hop
 cases R with
 |ok s1=>
  go_enter Tryz.func212,Tryz.ntmps212
  go_wp2_with fail
  refine HC.out.mono ?_
  rintro r w1 ⟨⟨rfl,g1,h1⟩,k1⟩
  have H1:=hide h1
  clear h1
  go_wp2
  go_ret
  exact⟨⟨rfl,g1,H1.out⟩,k1⟩
 |error e=>
  go_enter Tryz.func212,Tryz.ntmps212
  go_wp2_with fail
  refine HC.out.mono ?_
  rintro r w1 ⟨⟨fv,rfl,hf⟩,k1⟩
  have HF:=hide hf
  clear hf
  go_wp2
  go_ret
  exact⟨⟨fv,rfl,HF.out⟩,k1⟩

theorem special_5 (h:BSt E g w s) (z:Sz N s) (hN:N≤400000) (hne:s.blocks≠[]) (op:UInt8) (hop:op=5):Calls Tryz.prog 212 #[ptrTo E.bb,.int .u8 op.toNat] w fun r w'=>Done E w w' (specialM E.c op s) r∧Kp (nro E.ro) w w':=by
 have hM:specialM E.c op s=turnM s:=by rw[hop];rfl
 rw[hM]
 have hcon:=turn_any h z hN hne
 have q0:((op.toNat:Int)==0)=false:=by rw[hop];rfl
 have q2:((op.toNat:Int)==2)=false:=by rw[hop];rfl
 have q3:((op.toNat:Int)==3)=false:=by rw[hop];rfl
 have q4:((op.toNat:Int)==4)=false:=by rw[hop];rfl
 have q5:((op.toNat:Int)==5)=true:=by rw[hop];rfl
 have q11:((op.toNat:Int)==11)=false:=by rw[hop];rfl
 have q12:((op.toNat:Int)==12)=false:=by rw[hop];rfl
 have q13:((op.toNat:Int)==13)=false:=by rw[hop];rfl
 have q14:((op.toNat:Int)==14)=false:=by rw[hop];rfl
 have q15:((op.toNat:Int)==15)=false:=by rw[hop];rfl
 have q16:((op.toNat:Int)==16)=false:=by rw[hop];rfl
 have q26:((op.toNat:Int)==26)=false:=by rw[hop];rfl
 have q27:((op.toNat:Int)==27)=false:=by rw[hop];rfl
 have q35:((op.toNat:Int)==35)=false:=by rw[hop];rfl
 have q36:((op.toNat:Int)==36)=false:=by rw[hop];rfl
 generalize turnM s=R at *
 have HC:=hide hcon
 clear h hcon hM hop
 cases R with
 |ok s1=>
  go_enter Tryz.func212,Tryz.ntmps212
  go_wp2_with fail
  refine HC.out.mono ?_
  rintro r w1 ⟨⟨rfl,g1,h1⟩,k1⟩
  have H1:=hide h1
  clear h1
  go_wp2
  go_ret
  exact⟨⟨rfl,g1,H1.out⟩,k1⟩
 |error e=>
  go_enter Tryz.func212,Tryz.ntmps212
  go_wp2_with fail
  refine HC.out.mono ?_
  rintro r w1 ⟨⟨fv,rfl,hf⟩,k1⟩
  have HF:=hide hf
  clear hf
  go_wp2
  go_ret
  exact⟨⟨fv,rfl,HF.out⟩,k1⟩

theorem special_11 (h:BSt E g w s) (z:Sz N s) (hN:N≤400000) (hne:s.blocks≠[]) (op:UInt8) (hop:op=11):Calls Tryz.prog 212 #[ptrTo E.bb,.int .u8 op.toNat] w fun r w'=>Done E w w' (specialM E.c op s) r∧Kp (nro E.ro) w w':=by
 have hM:specialM E.c op s=endM s:=by rw[hop];rfl
 rw[hM]
 have hcon:=end_any h z hN hne
 have q0:((op.toNat:Int)==0)=false:=by rw[hop];rfl
 have q2:((op.toNat:Int)==2)=false:=by rw[hop];rfl
 have q3:((op.toNat:Int)==3)=false:=by rw[hop];rfl
 have q4:((op.toNat:Int)==4)=false:=by rw[hop];rfl
 have q5:((op.toNat:Int)==5)=false:=by rw[hop];rfl
 have q11:((op.toNat:Int)==11)=true:=by rw[hop];rfl
 have q12:((op.toNat:Int)==12)=false:=by rw[hop];rfl
 have q13:((op.toNat:Int)==13)=false:=by rw[hop];rfl
 have q14:((op.toNat:Int)==14)=false:=by rw[hop];rfl
 have q15:((op.toNat:Int)==15)=false:=by rw[hop];rfl
 have q16:((op.toNat:Int)==16)=false:=by rw[hop];rfl
 have q26:((op.toNat:Int)==26)=false:=by rw[hop];rfl
 have q27:((op.toNat:Int)==27)=false:=by rw[hop];rfl
 have q35:((op.toNat:Int)==35)=false:=by rw[hop];rfl
 have q36:((op.toNat:Int)==36)=false:=by rw[hop];rfl
 generalize endM s=R at *
 have HC:=hide hcon
 clear h hcon hM hop
 cases R with
 |ok s1=>
  go_enter Tryz.func212,Tryz.ntmps212
  go_wp2_with fail
  refine HC.out.mono ?_
  rintro r w1 ⟨⟨rfl,g1,h1⟩,k1⟩
  have H1:=hide h1
  clear h1
  go_wp2
  go_ret
  exact⟨⟨rfl,g1,H1.out⟩,k1⟩
 |error e=>
  go_enter Tryz.func212,Tryz.ntmps212
  go_wp2_with fail
  refine HC.out.mono ?_
  rintro r w1 ⟨⟨fv,rfl,hf⟩,k1⟩
  have HF:=hide hf
  clear hf
  go_wp2
  go_ret
  exact⟨⟨fv,rfl,HF.out⟩,k1⟩

theorem special_12 (h:BSt E g w s) (z:Sz N s) (hN:N≤400000) (hne:s.blocks≠[]) (op:UInt8) (hop:op=12):Calls Tryz.prog 212 #[ptrTo E.bb,.int .u8 op.toNat] w fun r w'=>Done E w w' (specialM E.c op s) r∧Kp (nro E.ro) w w':=by
 have hM:specialM E.c op s=branchM E.c op s:=by rw[hop];rfl
 rw[hM]
 have hcon:=branch_any h z (by omega) hne op (.inl hop)
 have q0:((op.toNat:Int)==0)=false:=by rw[hop];rfl
 have q2:((op.toNat:Int)==2)=false:=by rw[hop];rfl
 have q3:((op.toNat:Int)==3)=false:=by rw[hop];rfl
 have q4:((op.toNat:Int)==4)=false:=by rw[hop];rfl
 have q5:((op.toNat:Int)==5)=false:=by rw[hop];rfl
 have q11:((op.toNat:Int)==11)=false:=by rw[hop];rfl
 have q12:((op.toNat:Int)==12)=true:=by rw[hop];rfl
 have q13:((op.toNat:Int)==13)=false:=by rw[hop];rfl
 have q14:((op.toNat:Int)==14)=false:=by rw[hop];rfl
 have q15:((op.toNat:Int)==15)=false:=by rw[hop];rfl
 have q16:((op.toNat:Int)==16)=false:=by rw[hop];rfl
 have q26:((op.toNat:Int)==26)=false:=by rw[hop];rfl
 have q27:((op.toNat:Int)==27)=false:=by rw[hop];rfl
 have q35:((op.toNat:Int)==35)=false:=by rw[hop];rfl
 have q36:((op.toNat:Int)==36)=false:=by rw[hop];rfl
 generalize branchM E.c op s=R at *
 have HC:=hide hcon
 clear h hcon hM hop
 cases R with
 |ok s1=>
  go_enter Tryz.func212,Tryz.ntmps212
  go_wp2_with fail
  refine HC.out.mono ?_
  rintro r w1 ⟨⟨rfl,g1,h1⟩,k1⟩
  have H1:=hide h1
  clear h1
  go_wp2
  go_ret
  exact⟨⟨rfl,g1,H1.out⟩,k1⟩
 |error e=>
  go_enter Tryz.func212,Tryz.ntmps212
  go_wp2_with fail
  refine HC.out.mono ?_
  rintro r w1 ⟨⟨fv,rfl,hf⟩,k1⟩
  have HF:=hide hf
  clear hf
  go_wp2
  go_ret
  exact⟨⟨fv,rfl,HF.out⟩,k1⟩

theorem special_13 (h:BSt E g w s) (z:Sz N s) (hN:N≤400000) (hne:s.blocks≠[]) (op:UInt8) (hop:op=13):Calls Tryz.prog 212 #[ptrTo E.bb,.int .u8 op.toNat] w fun r w'=>Done E w w' (specialM E.c op s) r∧Kp (nro E.ro) w w':=by
 have hM:specialM E.c op s=branchM E.c op s:=by rw[hop];rfl
 rw[hM]
 have hcon:=branch_any h z (by omega) hne op (.inr hop)
 have q0:((op.toNat:Int)==0)=false:=by rw[hop];rfl
 have q2:((op.toNat:Int)==2)=false:=by rw[hop];rfl
 have q3:((op.toNat:Int)==3)=false:=by rw[hop];rfl
 have q4:((op.toNat:Int)==4)=false:=by rw[hop];rfl
 have q5:((op.toNat:Int)==5)=false:=by rw[hop];rfl
 have q11:((op.toNat:Int)==11)=false:=by rw[hop];rfl
 have q12:((op.toNat:Int)==12)=false:=by rw[hop];rfl
 have q13:((op.toNat:Int)==13)=true:=by rw[hop];rfl
 have q14:((op.toNat:Int)==14)=false:=by rw[hop];rfl
 have q15:((op.toNat:Int)==15)=false:=by rw[hop];rfl
 have q16:((op.toNat:Int)==16)=false:=by rw[hop];rfl
 have q26:((op.toNat:Int)==26)=false:=by rw[hop];rfl
 have q27:((op.toNat:Int)==27)=false:=by rw[hop];rfl
 have q35:((op.toNat:Int)==35)=false:=by rw[hop];rfl
 have q36:((op.toNat:Int)==36)=false:=by rw[hop];rfl
 generalize branchM E.c op s=R at *
 have HC:=hide hcon
 clear h hcon hM hop
 cases R with
 |ok s1=>
  go_enter Tryz.func212,Tryz.ntmps212
  go_wp2_with fail
  refine HC.out.mono ?_
  rintro r w1 ⟨⟨rfl,g1,h1⟩,k1⟩
  have H1:=hide h1
  clear h1
  go_wp2
  go_ret
  exact⟨⟨rfl,g1,H1.out⟩,k1⟩
 |error e=>
  go_enter Tryz.func212,Tryz.ntmps212
  go_wp2_with fail
  refine HC.out.mono ?_
  rintro r w1 ⟨⟨fv,rfl,hf⟩,k1⟩
  have HF:=hide hf
  clear hf
  go_wp2
  go_ret
  exact⟨⟨fv,rfl,HF.out⟩,k1⟩

theorem special_14 (h:BSt E g w s) (z:Sz N s) (hN:N≤400000) (hne:s.blocks≠[]) (op:UInt8) (hop:op=14):Calls Tryz.prog 212 #[ptrTo E.bb,.int .u8 op.toNat] w fun r w'=>Done E w w' (specialM E.c op s) r∧Kp (nro E.ro) w w':=by
 have hM:specialM E.c op s=tableM E.c s:=by rw[hop];rfl
 rw[hM]
 have hcon:=table_any h z hN hne
 have q0:((op.toNat:Int)==0)=false:=by rw[hop];rfl
 have q2:((op.toNat:Int)==2)=false:=by rw[hop];rfl
 have q3:((op.toNat:Int)==3)=false:=by rw[hop];rfl
 have q4:((op.toNat:Int)==4)=false:=by rw[hop];rfl
 have q5:((op.toNat:Int)==5)=false:=by rw[hop];rfl
 have q11:((op.toNat:Int)==11)=false:=by rw[hop];rfl
 have q12:((op.toNat:Int)==12)=false:=by rw[hop];rfl
 have q13:((op.toNat:Int)==13)=false:=by rw[hop];rfl
 have q14:((op.toNat:Int)==14)=true:=by rw[hop];rfl
 have q15:((op.toNat:Int)==15)=false:=by rw[hop];rfl
 have q16:((op.toNat:Int)==16)=false:=by rw[hop];rfl
 have q26:((op.toNat:Int)==26)=false:=by rw[hop];rfl
 have q27:((op.toNat:Int)==27)=false:=by rw[hop];rfl
 have q35:((op.toNat:Int)==35)=false:=by rw[hop];rfl
 have q36:((op.toNat:Int)==36)=false:=by rw[hop];rfl
 generalize tableM E.c s=R at *
 have HC:=hide hcon
 clear h hcon hM hop
 cases R with
 |ok s1=>
  go_enter Tryz.func212,Tryz.ntmps212
  go_wp2_with fail
  refine HC.out.mono ?_
  rintro r w1 ⟨⟨rfl,g1,h1⟩,k1⟩
  have H1:=hide h1
  clear h1
  go_wp2
  go_ret
  exact⟨⟨rfl,g1,H1.out⟩,k1⟩
 |error e=>
  go_enter Tryz.func212,Tryz.ntmps212
  go_wp2_with fail
  refine HC.out.mono ?_
  rintro r w1 ⟨⟨fv,rfl,hf⟩,k1⟩
  have HF:=hide hf
  clear hf
  go_wp2
  go_ret
  exact⟨⟨fv,rfl,HF.out⟩,k1⟩

theorem special_15 (h:BSt E g w s) (z:Sz N s) (hN:N≤400000) (hne:s.blocks≠[]) (op:UInt8) (hop:op=15):Calls Tryz.prog 212 #[ptrTo E.bb,.int .u8 op.toNat] w fun r w'=>Done E w w' (specialM E.c op s) r∧Kp (nro E.ro) w w':=by
 have hM:specialM E.c op s=leaveM s:=by rw[hop];rfl
 rw[hM]
 have hcon:=leave_any h z (by omega) hne
 have q0:((op.toNat:Int)==0)=false:=by rw[hop];rfl
 have q2:((op.toNat:Int)==2)=false:=by rw[hop];rfl
 have q3:((op.toNat:Int)==3)=false:=by rw[hop];rfl
 have q4:((op.toNat:Int)==4)=false:=by rw[hop];rfl
 have q5:((op.toNat:Int)==5)=false:=by rw[hop];rfl
 have q11:((op.toNat:Int)==11)=false:=by rw[hop];rfl
 have q12:((op.toNat:Int)==12)=false:=by rw[hop];rfl
 have q13:((op.toNat:Int)==13)=false:=by rw[hop];rfl
 have q14:((op.toNat:Int)==14)=false:=by rw[hop];rfl
 have q15:((op.toNat:Int)==15)=true:=by rw[hop];rfl
 have q16:((op.toNat:Int)==16)=false:=by rw[hop];rfl
 have q26:((op.toNat:Int)==26)=false:=by rw[hop];rfl
 have q27:((op.toNat:Int)==27)=false:=by rw[hop];rfl
 have q35:((op.toNat:Int)==35)=false:=by rw[hop];rfl
 have q36:((op.toNat:Int)==36)=false:=by rw[hop];rfl
 generalize leaveM s=R at *
 have HC:=hide hcon
 clear h hcon hM hop
 cases R with
 |ok s1=>
  go_enter Tryz.func212,Tryz.ntmps212
  go_wp2_with fail
  refine HC.out.mono ?_
  rintro r w1 ⟨⟨rfl,g1,h1⟩,k1⟩
  have H1:=hide h1
  clear h1
  go_wp2
  go_ret
  exact⟨⟨rfl,g1,H1.out⟩,k1⟩
 |error e=>
  go_enter Tryz.func212,Tryz.ntmps212
  go_wp2_with fail
  refine HC.out.mono ?_
  rintro r w1 ⟨⟨fv,rfl,hf⟩,k1⟩
  have HF:=hide hf
  clear hf
  go_wp2
  go_ret
  exact⟨⟨fv,rfl,HF.out⟩,k1⟩

theorem special_16 (h:BSt E g w s) (z:Sz N s) (hN:N≤400000) (hne:s.blocks≠[]) (op:UInt8) (hop:op=16):Calls Tryz.prog 212 #[ptrTo E.bb,.int .u8 op.toNat] w fun r w'=>Done E w w' (specialM E.c op s) r∧Kp (nro E.ro) w w':=by
 have hM:specialM E.c op s=callM E.c s:=by rw[hop];rfl
 rw[hM]
 have hcon:=call_any h z (by omega) hne
 have q0:((op.toNat:Int)==0)=false:=by rw[hop];rfl
 have q2:((op.toNat:Int)==2)=false:=by rw[hop];rfl
 have q3:((op.toNat:Int)==3)=false:=by rw[hop];rfl
 have q4:((op.toNat:Int)==4)=false:=by rw[hop];rfl
 have q5:((op.toNat:Int)==5)=false:=by rw[hop];rfl
 have q11:((op.toNat:Int)==11)=false:=by rw[hop];rfl
 have q12:((op.toNat:Int)==12)=false:=by rw[hop];rfl
 have q13:((op.toNat:Int)==13)=false:=by rw[hop];rfl
 have q14:((op.toNat:Int)==14)=false:=by rw[hop];rfl
 have q15:((op.toNat:Int)==15)=false:=by rw[hop];rfl
 have q16:((op.toNat:Int)==16)=true:=by rw[hop];rfl
 have q26:((op.toNat:Int)==26)=false:=by rw[hop];rfl
 have q27:((op.toNat:Int)==27)=false:=by rw[hop];rfl
 have q35:((op.toNat:Int)==35)=false:=by rw[hop];rfl
 have q36:((op.toNat:Int)==36)=false:=by rw[hop];rfl
 generalize callM E.c s=R at *
 have HC:=hide hcon
 clear h hcon hM hop
 cases R with
 |ok s1=>
  go_enter Tryz.func212,Tryz.ntmps212
  go_wp2_with fail
  refine HC.out.mono ?_
  rintro r w1 ⟨⟨rfl,g1,h1⟩,k1⟩
  have H1:=hide h1
  clear h1
  go_wp2
  go_ret
  exact⟨⟨rfl,g1,H1.out⟩,k1⟩
 |error e=>
  go_enter Tryz.func212,Tryz.ntmps212
  go_wp2_with fail
  refine HC.out.mono ?_
  rintro r w1 ⟨⟨fv,rfl,hf⟩,k1⟩
  have HF:=hide hf
  clear hf
  go_wp2
  go_ret
  exact⟨⟨fv,rfl,HF.out⟩,k1⟩

theorem special_26 (h:BSt E g w s) (z:Sz N s) (hN:N≤400000) (hne:s.blocks≠[]) (op:UInt8) (hop:op=26):Calls Tryz.prog 212 #[ptrTo E.bb,.int .u8 op.toNat] w fun r w'=>Done E w w' (specialM E.c op s) r∧Kp (nro E.ro) w w':=by
 have hM:specialM E.c op s=dropM s:=by rw[hop];rfl
 rw[hM]
 have hcon:=drop_any h z (by omega) hne
 have q0:((op.toNat:Int)==0)=false:=by rw[hop];rfl
 have q2:((op.toNat:Int)==2)=false:=by rw[hop];rfl
 have q3:((op.toNat:Int)==3)=false:=by rw[hop];rfl
 have q4:((op.toNat:Int)==4)=false:=by rw[hop];rfl
 have q5:((op.toNat:Int)==5)=false:=by rw[hop];rfl
 have q11:((op.toNat:Int)==11)=false:=by rw[hop];rfl
 have q12:((op.toNat:Int)==12)=false:=by rw[hop];rfl
 have q13:((op.toNat:Int)==13)=false:=by rw[hop];rfl
 have q14:((op.toNat:Int)==14)=false:=by rw[hop];rfl
 have q15:((op.toNat:Int)==15)=false:=by rw[hop];rfl
 have q16:((op.toNat:Int)==16)=false:=by rw[hop];rfl
 have q26:((op.toNat:Int)==26)=true:=by rw[hop];rfl
 have q27:((op.toNat:Int)==27)=false:=by rw[hop];rfl
 have q35:((op.toNat:Int)==35)=false:=by rw[hop];rfl
 have q36:((op.toNat:Int)==36)=false:=by rw[hop];rfl
 generalize dropM s=R at *
 have HC:=hide hcon
 clear h hcon hM hop
 cases R with
 |ok s1=>
  go_enter Tryz.func212,Tryz.ntmps212
  go_wp2_with fail
  refine HC.out.mono ?_
  rintro r w1 ⟨⟨rfl,g1,h1⟩,k1⟩
  have H1:=hide h1
  clear h1
  go_wp2
  go_ret
  exact⟨⟨rfl,g1,H1.out⟩,k1⟩
 |error e=>
  go_enter Tryz.func212,Tryz.ntmps212
  go_wp2_with fail
  refine HC.out.mono ?_
  rintro r w1 ⟨⟨fv,rfl,hf⟩,k1⟩
  have HF:=hide hf
  clear hf
  go_wp2
  go_ret
  exact⟨⟨fv,rfl,HF.out⟩,k1⟩

theorem special_27 (h:BSt E g w s) (z:Sz N s) (hN:N≤400000) (hne:s.blocks≠[]) (op:UInt8) (hop:op=27):Calls Tryz.prog 212 #[ptrTo E.bb,.int .u8 op.toNat] w fun r w'=>Done E w w' (specialM E.c op s) r∧Kp (nro E.ro) w w':=by
 have hM:specialM E.c op s=chooseM s:=by rw[hop];rfl
 rw[hM]
 have hcon:=choose_any h z (by omega) hne
 have q0:((op.toNat:Int)==0)=false:=by rw[hop];rfl
 have q2:((op.toNat:Int)==2)=false:=by rw[hop];rfl
 have q3:((op.toNat:Int)==3)=false:=by rw[hop];rfl
 have q4:((op.toNat:Int)==4)=false:=by rw[hop];rfl
 have q5:((op.toNat:Int)==5)=false:=by rw[hop];rfl
 have q11:((op.toNat:Int)==11)=false:=by rw[hop];rfl
 have q12:((op.toNat:Int)==12)=false:=by rw[hop];rfl
 have q13:((op.toNat:Int)==13)=false:=by rw[hop];rfl
 have q14:((op.toNat:Int)==14)=false:=by rw[hop];rfl
 have q15:((op.toNat:Int)==15)=false:=by rw[hop];rfl
 have q16:((op.toNat:Int)==16)=false:=by rw[hop];rfl
 have q26:((op.toNat:Int)==26)=false:=by rw[hop];rfl
 have q27:((op.toNat:Int)==27)=true:=by rw[hop];rfl
 have q35:((op.toNat:Int)==35)=false:=by rw[hop];rfl
 have q36:((op.toNat:Int)==36)=false:=by rw[hop];rfl
 generalize chooseM s=R at *
 have HC:=hide hcon
 clear h hcon hM hop
 cases R with
 |ok s1=>
  go_enter Tryz.func212,Tryz.ntmps212
  go_wp2_with fail
  refine HC.out.mono ?_
  rintro r w1 ⟨⟨rfl,g1,h1⟩,k1⟩
  have H1:=hide h1
  clear h1
  go_wp2
  go_ret
  exact⟨⟨rfl,g1,H1.out⟩,k1⟩
 |error e=>
  go_enter Tryz.func212,Tryz.ntmps212
  go_wp2_with fail
  refine HC.out.mono ?_
  rintro r w1 ⟨⟨fv,rfl,hf⟩,k1⟩
  have HF:=hide hf
  clear hf
  go_wp2
  go_ret
  exact⟨⟨fv,rfl,HF.out⟩,k1⟩

theorem special_35 (h:BSt E g w s) (z:Sz N s) (hN:N≤400000) (hne:s.blocks≠[]) (op:UInt8) (hop:op=35):Calls Tryz.prog 212 #[ptrTo E.bb,.int .u8 op.toNat] w fun r w'=>Done E w w' (specialM E.c op s) r∧Kp (nro E.ro) w w':=by
 have hM:specialM E.c op s=globalM E.c op s:=by rw[hop];rfl
 rw[hM]
 have hcon:=global_any h z (by omega) hne op (.inl hop)
 have q0:((op.toNat:Int)==0)=false:=by rw[hop];rfl
 have q2:((op.toNat:Int)==2)=false:=by rw[hop];rfl
 have q3:((op.toNat:Int)==3)=false:=by rw[hop];rfl
 have q4:((op.toNat:Int)==4)=false:=by rw[hop];rfl
 have q5:((op.toNat:Int)==5)=false:=by rw[hop];rfl
 have q11:((op.toNat:Int)==11)=false:=by rw[hop];rfl
 have q12:((op.toNat:Int)==12)=false:=by rw[hop];rfl
 have q13:((op.toNat:Int)==13)=false:=by rw[hop];rfl
 have q14:((op.toNat:Int)==14)=false:=by rw[hop];rfl
 have q15:((op.toNat:Int)==15)=false:=by rw[hop];rfl
 have q16:((op.toNat:Int)==16)=false:=by rw[hop];rfl
 have q26:((op.toNat:Int)==26)=false:=by rw[hop];rfl
 have q27:((op.toNat:Int)==27)=false:=by rw[hop];rfl
 have q35:((op.toNat:Int)==35)=true:=by rw[hop];rfl
 have q36:((op.toNat:Int)==36)=false:=by rw[hop];rfl
 generalize globalM E.c op s=R at *
 have HC:=hide hcon
 clear h hcon hM hop
 cases R with
 |ok s1=>
  go_enter Tryz.func212,Tryz.ntmps212
  go_wp2_with fail
  refine HC.out.mono ?_
  rintro r w1 ⟨⟨rfl,g1,h1⟩,k1⟩
  have H1:=hide h1
  clear h1
  go_wp2
  go_ret
  exact⟨⟨rfl,g1,H1.out⟩,k1⟩
 |error e=>
  go_enter Tryz.func212,Tryz.ntmps212
  go_wp2_with fail
  refine HC.out.mono ?_
  rintro r w1 ⟨⟨fv,rfl,hf⟩,k1⟩
  have HF:=hide hf
  clear hf
  go_wp2
  go_ret
  exact⟨⟨fv,rfl,HF.out⟩,k1⟩

theorem special_36 (h:BSt E g w s) (z:Sz N s) (hN:N≤400000) (hne:s.blocks≠[]) (op:UInt8) (hop:op=36):Calls Tryz.prog 212 #[ptrTo E.bb,.int .u8 op.toNat] w fun r w'=>Done E w w' (specialM E.c op s) r∧Kp (nro E.ro) w w':=by
 have hM:specialM E.c op s=globalM E.c op s:=by rw[hop];rfl
 rw[hM]
 have hcon:=global_any h z (by omega) hne op (.inr hop)
 have q0:((op.toNat:Int)==0)=false:=by rw[hop];rfl
 have q2:((op.toNat:Int)==2)=false:=by rw[hop];rfl
 have q3:((op.toNat:Int)==3)=false:=by rw[hop];rfl
 have q4:((op.toNat:Int)==4)=false:=by rw[hop];rfl
 have q5:((op.toNat:Int)==5)=false:=by rw[hop];rfl
 have q11:((op.toNat:Int)==11)=false:=by rw[hop];rfl
 have q12:((op.toNat:Int)==12)=false:=by rw[hop];rfl
 have q13:((op.toNat:Int)==13)=false:=by rw[hop];rfl
 have q14:((op.toNat:Int)==14)=false:=by rw[hop];rfl
 have q15:((op.toNat:Int)==15)=false:=by rw[hop];rfl
 have q16:((op.toNat:Int)==16)=false:=by rw[hop];rfl
 have q26:((op.toNat:Int)==26)=false:=by rw[hop];rfl
 have q27:((op.toNat:Int)==27)=false:=by rw[hop];rfl
 have q35:((op.toNat:Int)==35)=false:=by rw[hop];rfl
 have q36:((op.toNat:Int)==36)=true:=by rw[hop];rfl
 generalize globalM E.c op s=R at *
 have HC:=hide hcon
 clear h hcon hM hop
 cases R with
 |ok s1=>
  go_enter Tryz.func212,Tryz.ntmps212
  go_wp2_with fail
  refine HC.out.mono ?_
  rintro r w1 ⟨⟨rfl,g1,h1⟩,k1⟩
  have H1:=hide h1
  clear h1
  go_wp2
  go_ret
  exact⟨⟨rfl,g1,H1.out⟩,k1⟩
 |error e=>
  go_enter Tryz.func212,Tryz.ntmps212
  go_wp2_with fail
  refine HC.out.mono ?_
  rintro r w1 ⟨⟨fv,rfl,hf⟩,k1⟩
  have HF:=hide hf
  clear hf
  go_wp2
  go_ret
  exact⟨⟨fv,rfl,HF.out⟩,k1⟩

theorem special_32 (h:BSt E g w s) (z:Sz N s) (hN:N≤400000) (hne:s.blocks≠[]) (op:UInt8) (hop:op=32):Calls Tryz.prog 212 #[ptrTo E.bb,.int .u8 op.toNat] w fun r w'=>Done E w w' (specialM E.c op s) r∧Kp (nro E.ro) w w':=by
 have hM:specialM E.c op s=localM E.c op s:=by rw[hop];rfl
 rw[hM]
 have hcon:=local_any h z (by omega) hne op
 have q0:((op.toNat:Int)==0)=false:=by rw[hop];rfl
 have q2:((op.toNat:Int)==2)=false:=by rw[hop];rfl
 have q3:((op.toNat:Int)==3)=false:=by rw[hop];rfl
 have q4:((op.toNat:Int)==4)=false:=by rw[hop];rfl
 have q5:((op.toNat:Int)==5)=false:=by rw[hop];rfl
 have q11:((op.toNat:Int)==11)=false:=by rw[hop];rfl
 have q12:((op.toNat:Int)==12)=false:=by rw[hop];rfl
 have q13:((op.toNat:Int)==13)=false:=by rw[hop];rfl
 have q14:((op.toNat:Int)==14)=false:=by rw[hop];rfl
 have q15:((op.toNat:Int)==15)=false:=by rw[hop];rfl
 have q16:((op.toNat:Int)==16)=false:=by rw[hop];rfl
 have q26:((op.toNat:Int)==26)=false:=by rw[hop];rfl
 have q27:((op.toNat:Int)==27)=false:=by rw[hop];rfl
 have q35:((op.toNat:Int)==35)=false:=by rw[hop];rfl
 have q36:((op.toNat:Int)==36)=false:=by rw[hop];rfl
 generalize localM E.c op s=R at *
 have HC:=hide hcon
 clear h hcon hM hop
 cases R with
 |ok s1=>
  go_enter Tryz.func212,Tryz.ntmps212
  go_wp2_with fail
  refine HC.out.mono ?_
  rintro r w1 ⟨⟨rfl,g1,h1⟩,k1⟩
  have H1:=hide h1
  clear h1
  go_wp2
  go_ret
  exact⟨⟨rfl,g1,H1.out⟩,k1⟩
 |error e=>
  go_enter Tryz.func212,Tryz.ntmps212
  go_wp2_with fail
  refine HC.out.mono ?_
  rintro r w1 ⟨⟨fv,rfl,hf⟩,k1⟩
  have HF:=hide hf
  clear hf
  go_wp2
  go_ret
  exact⟨⟨fv,rfl,HF.out⟩,k1⟩

theorem special_33 (h:BSt E g w s) (z:Sz N s) (hN:N≤400000) (hne:s.blocks≠[]) (op:UInt8) (hop:op=33):Calls Tryz.prog 212 #[ptrTo E.bb,.int .u8 op.toNat] w fun r w'=>Done E w w' (specialM E.c op s) r∧Kp (nro E.ro) w w':=by
 have hM:specialM E.c op s=localM E.c op s:=by rw[hop];rfl
 rw[hM]
 have hcon:=local_any h z (by omega) hne op
 have q0:((op.toNat:Int)==0)=false:=by rw[hop];rfl
 have q2:((op.toNat:Int)==2)=false:=by rw[hop];rfl
 have q3:((op.toNat:Int)==3)=false:=by rw[hop];rfl
 have q4:((op.toNat:Int)==4)=false:=by rw[hop];rfl
 have q5:((op.toNat:Int)==5)=false:=by rw[hop];rfl
 have q11:((op.toNat:Int)==11)=false:=by rw[hop];rfl
 have q12:((op.toNat:Int)==12)=false:=by rw[hop];rfl
 have q13:((op.toNat:Int)==13)=false:=by rw[hop];rfl
 have q14:((op.toNat:Int)==14)=false:=by rw[hop];rfl
 have q15:((op.toNat:Int)==15)=false:=by rw[hop];rfl
 have q16:((op.toNat:Int)==16)=false:=by rw[hop];rfl
 have q26:((op.toNat:Int)==26)=false:=by rw[hop];rfl
 have q27:((op.toNat:Int)==27)=false:=by rw[hop];rfl
 have q35:((op.toNat:Int)==35)=false:=by rw[hop];rfl
 have q36:((op.toNat:Int)==36)=false:=by rw[hop];rfl
 generalize localM E.c op s=R at *
 have HC:=hide hcon
 clear h hcon hM hop
 cases R with
 |ok s1=>
  go_enter Tryz.func212,Tryz.ntmps212
  go_wp2_with fail
  refine HC.out.mono ?_
  rintro r w1 ⟨⟨rfl,g1,h1⟩,k1⟩
  have H1:=hide h1
  clear h1
  go_wp2
  go_ret
  exact⟨⟨rfl,g1,H1.out⟩,k1⟩
 |error e=>
  go_enter Tryz.func212,Tryz.ntmps212
  go_wp2_with fail
  refine HC.out.mono ?_
  rintro r w1 ⟨⟨fv,rfl,hf⟩,k1⟩
  have HF:=hide hf
  clear hf
  go_wp2
  go_ret
  exact⟨⟨fv,rfl,HF.out⟩,k1⟩

theorem special_34 (h:BSt E g w s) (z:Sz N s) (hN:N≤400000) (hne:s.blocks≠[]) (op:UInt8) (hop:op=34):Calls Tryz.prog 212 #[ptrTo E.bb,.int .u8 op.toNat] w fun r w'=>Done E w w' (specialM E.c op s) r∧Kp (nro E.ro) w w':=by
 have hM:specialM E.c op s=localM E.c op s:=by rw[hop];rfl
 rw[hM]
 have hcon:=local_any h z (by omega) hne op
 have q0:((op.toNat:Int)==0)=false:=by rw[hop];rfl
 have q2:((op.toNat:Int)==2)=false:=by rw[hop];rfl
 have q3:((op.toNat:Int)==3)=false:=by rw[hop];rfl
 have q4:((op.toNat:Int)==4)=false:=by rw[hop];rfl
 have q5:((op.toNat:Int)==5)=false:=by rw[hop];rfl
 have q11:((op.toNat:Int)==11)=false:=by rw[hop];rfl
 have q12:((op.toNat:Int)==12)=false:=by rw[hop];rfl
 have q13:((op.toNat:Int)==13)=false:=by rw[hop];rfl
 have q14:((op.toNat:Int)==14)=false:=by rw[hop];rfl
 have q15:((op.toNat:Int)==15)=false:=by rw[hop];rfl
 have q16:((op.toNat:Int)==16)=false:=by rw[hop];rfl
 have q26:((op.toNat:Int)==26)=false:=by rw[hop];rfl
 have q27:((op.toNat:Int)==27)=false:=by rw[hop];rfl
 have q35:((op.toNat:Int)==35)=false:=by rw[hop];rfl
 have q36:((op.toNat:Int)==36)=false:=by rw[hop];rfl
 generalize localM E.c op s=R at *
 have HC:=hide hcon
 clear h hcon hM hop
 cases R with
 |ok s1=>
  go_enter Tryz.func212,Tryz.ntmps212
  go_wp2_with fail
  refine HC.out.mono ?_
  rintro r w1 ⟨⟨rfl,g1,h1⟩,k1⟩
  have H1:=hide h1
  clear h1
  go_wp2
  go_ret
  exact⟨⟨rfl,g1,H1.out⟩,k1⟩
 |error e=>
  go_enter Tryz.func212,Tryz.ntmps212
  go_wp2_with fail
  refine HC.out.mono ?_
  rintro r w1 ⟨⟨fv,rfl,hf⟩,k1⟩
  have HF:=hide hf
  clear hf
  go_wp2
  go_ret
  exact⟨⟨fv,rfl,HF.out⟩,k1⟩

theorem special_any (h:BSt E g w s) (z:Sz N s) (hN:N≤400000) (hne:s.blocks≠[]) (op:UInt8) (hop:op∈([0,2,3,4,5,11,12,13,14,15,16,26,27,32,33,34,35,36]:List UInt8)):Calls Tryz.prog 212 #[ptrTo E.bb,.int .u8 op.toNat] w fun r w'=>Done E w w' (specialM E.c op s) r∧Kp (nro E.ro) w w':=by
 simp only[List.mem_cons,List.not_mem_nil,or_false]at hop
 rcases hop with e|e|e|e|e|e|e|e|e|e|e|e|e|e|e|e|e|e
 ·exact special_0 h z hN hne op e
 ·exact special_2 h z hN hne op e
 ·exact special_3 h z hN hne op e
 ·exact special_4 h z hN hne op e
 ·exact special_5 h z hN hne op e
 ·exact special_11 h z hN hne op e
 ·exact special_12 h z hN hne op e
 ·exact special_13 h z hN hne op e
 ·exact special_14 h z hN hne op e
 ·exact special_15 h z hN hne op e
 ·exact special_16 h z hN hne op e
 ·exact special_26 h z hN hne op e
 ·exact special_27 h z hN hne op e
 ·exact special_32 h z hN hne op e
 ·exact special_33 h z hN hne op e
 ·exact special_34 h z hN hne op e
 ·exact special_35 h z hN hne op e
 ·exact special_36 h z hN hne op e
end

end Go.Proofs.YtdeplgkhmebalaaGreatDoor

set_option linter.unusedSimpArgs false
set_option linter.unusedVariables false
set_option maxHeartbeats 4000000
set_option maxRecDepth 100000
namespace Go.Proofs.YtdeplgkhmebalaaGreatDoor
open Go.RowKit

def rowFit (op:UInt8):Option RowT→Bool
 |none=>true
 |some r=>if r.behind=4 then ([0,2,3,4,5,11,12,13,14,15,16,26,27,32,33,34,35,36]:List UInt8).contains op
   else decide (r.behind≤3)&&decide (r.takes.length≤2)&&decide (r.gives.length≤1)
theorem rowFit_all: ∀x:Fin 256,rowFit (UInt8.ofNat x.val) (findM (UInt8.ofNat x.val))=true:=by decide +kernel
theorem rowFit_at (op:UInt8):rowFit op (findM op)=true:=by
 have :=rowFit_all ⟨op.toNat,op.toNat_lt⟩
 simpa using this

theorem heap_alloc_new2 (w:World) (X Y:Obj):((w.alloc X).alloc Y).heap[w.heap.size+1]? =some Y:=by
 have :=heap_alloc_new (w.alloc X) Y
 simpa using this

section
variable{E:Env} {g N:Nat} {w:World} {s:Bd}

theorem step_any (h:BSt E g w s) (hR:RowsAt w E.ro) (z:Sz N s) (hN:N≤400000) (hne:s.blocks≠[]):Calls Tryz.prog 179 #[ptrTo E.bb] w fun r w'=>Done E w w' (stepM E.c s) r∧Kp (nro E.ro) w w':=by
 have hM:stepM E.c s=(match byteM E.c.D s.i with
  | .error e=> .error e
  | .ok (op,j)=>
   match findM op with
   |none=> .error (2,s.i)
   |some r=>
    if s.closed=true∧op≠5∧op≠11 then .error (3,s.i)
    else if r.behind=4 then specialM E.c op {s with pos:=s.i,i:=j}
    else plainB E.c op r {s with pos:=s.i,i:=j}):=rfl
 generalize stepM E.c s=R at *
 obtain⟨h0,k0⟩:=pos_end h s.i
 have hat:=at_any h.rd
 have hby:=byte_any h0.rd
 simp only at hby
 generalize byteM E.c.D s.i=Q at *
 obtain⟨sv,kc,hbo,-⟩:=h.bodyAt
 obtain⟨hc,hf⟩:=cells_of hbo
 obtain⟨sv0,kc0,hbo0,-⟩:=h0.bodyAt
 obtain⟨hc0,hf0⟩:=cells_of hbo0
 have HBo0:=hide hbo0
 obtain⟨-,-,hnb,-,-⟩:=h.modAt
 have H:=hide h
 have H0:=hide h0
 have HK0:=hide (h.nroBb k0)
 have HR0:=hide (hR.kp (h.nroBb k0))
 have HA:=hide hat
 have HB:=hide hby
 have HM:=hide hM
 clear h h0 k0 hat hby hM hbo hbo0 hR
 match Q,HM,HB with
 | .error e,HM,HB=>
  go_enter Tryz.func179,Tryz.ntmps179
  go_wp2_with fail
  refine HA.out.mono ?_
  rintro r w1 ⟨rfl,rfl⟩
  go_wp2_with fail
  generalize World.setCell w1 ⟨E.bb,6,none⟩ (.int .i64 s.i)=w2 at *
  refine HB.out.mono ?_
  rintro r w3 ⟨⟨fv,j,rfl,⟨fb,rfl,hfb,hfo⟩,h1⟩,k1⟩
  have HF:=hide hfo
  clear hfo h1
  go_wp2
  go_ret
  rw[HM.out]
  exact⟨⟨ptrTo fb,rfl,fb,rfl,by have :=HK0.out.size;omega,HF.out⟩,HK0.out.trans (H0.out.nroRb k1)⟩
 | .ok (op,j),HM,HB=>
  have hfit:=rowFit_at op
  have hfi:=fun W (hW:RowsAt W E.ro)=>find_any hW op
  have hM:=HM.out
  simp only at hM
  generalize findM op=Qf at *
  have HFi:=hide hfi
  have HMq:=hide hM
  clear hfi hM HM
  cases Qf with
  |none=>
   go_enter Tryz.func179,Tryz.ntmps179
   go_wp2_with fail
   refine HA.out.mono ?_
   rintro r w1 ⟨rfl,rfl⟩
   go_wp2_with fail
   generalize World.setCell w1 ⟨E.bb,6,none⟩ (.int .i64 s.i)=w2 at *
   refine HB.out.mono ?_
   rintro r w3 ⟨⟨v,rfl,rfl,h3⟩,k3⟩
   have HFi3:=hide (HFi.out w3 (HR0.out.kp (H0.out.nroRb k3)))
   have HBo3:=hide (k3.blk HBo0.out hnb)
   have HK3:=hide (HK0.out.trans (H0.out.nroRb k3))
   clear h3 k3 hc hf hc0 hf0
   go_wp2_with fail
   refine HFi3.out.mono ?_
   rintro r w4 ⟨rfl,k4⟩
   obtain⟨hc4,hf4⟩:=cells_of (k4.blk HBo3.out (fun h=>h))
   have hlb4:=lt_of_blk (k4.blk HBo3.out (fun h=>h))
   have HK4:=hide (HK3.out.trans k4.any)
   simp only[rowAgg,rowCells,noRow]
   clear k4
   go_wp2_with fail
   refine(form_any _ _).mono ?_
   rintro r w5 ⟨rfl,rfl⟩
   go_wp2
   go_ret
   rw[HMq.out]
   exact⟨⟨_,rfl,⟨_,rfl,by have :=HK4.out.size;simp;omega,heap_alloc_new2 _ _ _⟩⟩,(HK4.out.alloc _).alloc _⟩
  |some rr=>
   obtain⟨fr,up,bh,tk,gv⟩:=rr
   have z1:Sz N {s with pos:=s.i,i:=j}:=z.read j s.i s.closed
   have q5:((op.toNat:Int) !=5)= !(op==5):=u8_ne op 5
   have q11:((op.toNat:Int) !=11)= !(op==11):=u8_ne op 11
   have hM:=HMq.out
   simp only at hM
   cases hcl:s.closed with
   |false=>
    rw[if_neg (by simp[hcl])]at hM
    by_cases hb4:bh=4
    ·have qb:((bh:Int)==4)=true:=by rw[hb4];rfl
     have hmem:op∈([0,2,3,4,5,11,12,13,14,15,16,26,27,32,33,34,35,36]:List UInt8):=by simpa[rowFit,hb4]using hfit
     rw[if_pos hb4]at hM
     clear hb4
     clear HMq
     have hcon:=fun W (hW:BSt E g W {s with pos:=s.i,i:=j})=>special_any hW z1 hN hne op hmem
     generalize specialM E.c op {s with pos:=s.i,i:=j}=T at *
     have HCn:=hide hcon
     clear hcon
     subst hM
     cases R with
     |ok s1=>
      go_enter Tryz.func179,Tryz.ntmps179
      go_wp2_with fail
      refine HA.out.mono ?_
      rintro r w1 ⟨rfl,rfl⟩
      go_wp2_with fail
      generalize World.setCell w1 ⟨E.bb,6,none⟩ (.int .i64 s.i)=w2 at *
      refine HB.out.mono ?_
      rintro r w3 ⟨⟨v,rfl,rfl,h3⟩,k3⟩
      have HFi3:=hide (HFi.out w3 (HR0.out.kp (H0.out.nroRb k3)))
      have HBo3:=hide (k3.blk HBo0.out hnb)
      have H3:=hide (H0.out.read k3 h3)
      have HK3:=hide (HK0.out.trans (H0.out.nroRb k3))
      clear h3 k3 hc hf hc0 hf0
      go_wp2_with fail
      refine HFi3.out.mono ?_
      rintro r w4 ⟨rfl,k4⟩
      obtain⟨hc4,hf4⟩:=cells_of (k4.blk HBo3.out (fun h=>h))
      have hlb4:=lt_of_blk (k4.blk HBo3.out (fun h=>h))
      have HK4:=hide (HK3.out.trans k4.any)
      have H4:=hide ((H3.out.quiet k4).quiet ((Kp.refl no w4).alloc (.cells #[.int .u8 fr.toNat,.int .u8 up.toNat,.int .i64 bh,.string ⟨tk.toArray⟩,.string ⟨gv.toArray⟩] 329)))
      simp only[rowAgg,rowCells]
      clear k4
      have HC:=hide (HCn.out _ H4.out)
      clear H4
      go_wp2_with fail
      refine HC.out.mono ?_
      rintro r w5 ⟨⟨rfl,g1,h5⟩,k5⟩
      have H5:=hide h5
      have HK5:=hide ((HK4.out.alloc _).trans k5)
      clear h5 k5
      go_wp2
      go_ret
      exact⟨⟨rfl,g1,H5.out⟩,HK5.out⟩
     |error e=>
      go_enter Tryz.func179,Tryz.ntmps179
      go_wp2_with fail
      refine HA.out.mono ?_
      rintro r w1 ⟨rfl,rfl⟩
      go_wp2_with fail
      generalize World.setCell w1 ⟨E.bb,6,none⟩ (.int .i64 s.i)=w2 at *
      refine HB.out.mono ?_
      rintro r w3 ⟨⟨v,rfl,rfl,h3⟩,k3⟩
      have HFi3:=hide (HFi.out w3 (HR0.out.kp (H0.out.nroRb k3)))
      have HBo3:=hide (k3.blk HBo0.out hnb)
      have H3:=hide (H0.out.read k3 h3)
      have HK3:=hide (HK0.out.trans (H0.out.nroRb k3))
      clear h3 k3 hc hf hc0 hf0
      go_wp2_with fail
      refine HFi3.out.mono ?_
      rintro r w4 ⟨rfl,k4⟩
      obtain⟨hc4,hf4⟩:=cells_of (k4.blk HBo3.out (fun h=>h))
      have hlb4:=lt_of_blk (k4.blk HBo3.out (fun h=>h))
      have HK4:=hide (HK3.out.trans k4.any)
      have H4:=hide ((H3.out.quiet k4).quiet ((Kp.refl no w4).alloc (.cells #[.int .u8 fr.toNat,.int .u8 up.toNat,.int .i64 bh,.string ⟨tk.toArray⟩,.string ⟨gv.toArray⟩] 329)))
      simp only[rowAgg,rowCells]
      clear k4
      have HC:=hide (HCn.out _ H4.out)
      clear H4
      go_wp2_with fail
      refine HC.out.mono ?_
      rintro r w5 ⟨⟨fv,rfl,fb,rfl,hfb,hfo⟩,k5⟩
      have HF:=hide hfo
      have HK5:=hide ((HK4.out.alloc _).trans k5)
      clear hfo k5
      go_wp2
      go_ret
      exact⟨⟨ptrTo fb,rfl,fb,rfl,by have :=HK4.out.size;simp at hfb;omega,HF.out⟩,HK5.out⟩
    ·have hfit2:bh≤3∧tk.length≤2∧gv.length≤1:=by simpa[rowFit,hb4,and_assoc]using hfit
     have hbb:bh=0∨bh=1∨bh=2∨bh=3:=by omega
     have htk2:=hfit2.2.1
     have hgv2:=hfit2.2.2
     have qb:((bh:Int)==4)=false:=by simp;omega
     rw[if_neg hb4]at hM
     clear HMq
     have hcon:=fun W (hW:BSt E g W {s with pos:=s.i,i:=j})=>plain_any' hW z1 (by omega) hne op ⟨fr,up,bh,tk,gv⟩ hbb htk2 hgv2
     generalize plainB E.c op ⟨fr,up,bh,tk,gv⟩ {s with pos:=s.i,i:=j}=T at *
     have HCn:=hide hcon
     clear hcon
     subst hM
     cases R with
     |ok s1=>
      go_enter Tryz.func179,Tryz.ntmps179
      go_wp2_with fail
      refine HA.out.mono ?_
      rintro r w1 ⟨rfl,rfl⟩
      go_wp2_with fail
      generalize World.setCell w1 ⟨E.bb,6,none⟩ (.int .i64 s.i)=w2 at *
      refine HB.out.mono ?_
      rintro r w3 ⟨⟨v,rfl,rfl,h3⟩,k3⟩
      have HFi3:=hide (HFi.out w3 (HR0.out.kp (H0.out.nroRb k3)))
      have HBo3:=hide (k3.blk HBo0.out hnb)
      have H3:=hide (H0.out.read k3 h3)
      have HK3:=hide (HK0.out.trans (H0.out.nroRb k3))
      clear h3 k3 hc hf hc0 hf0
      go_wp2_with fail
      refine HFi3.out.mono ?_
      rintro r w4 ⟨rfl,k4⟩
      obtain⟨hc4,hf4⟩:=cells_of (k4.blk HBo3.out (fun h=>h))
      have hlb4:=lt_of_blk (k4.blk HBo3.out (fun h=>h))
      have HK4:=hide (HK3.out.trans k4.any)
      have H4:=hide ((H3.out.quiet k4).quiet ((Kp.refl no w4).alloc (.cells #[.int .u8 fr.toNat,.int .u8 up.toNat,.int .i64 bh,.string ⟨tk.toArray⟩,.string ⟨gv.toArray⟩] 329)))
      simp only[rowAgg,rowCells]
      clear k4
      have HC:=hide (HCn.out _ H4.out)
      clear H4
      go_wp2_with fail
      refine HC.out.mono ?_
      rintro r w5 ⟨⟨rfl,g1,h5⟩,k5⟩
      have H5:=hide h5
      have HK5:=hide ((HK4.out.alloc _).trans k5)
      clear h5 k5
      go_wp2
      go_ret
      exact⟨⟨rfl,g1,H5.out⟩,HK5.out⟩
     |error e=>
      go_enter Tryz.func179,Tryz.ntmps179
      go_wp2_with fail
      refine HA.out.mono ?_
      rintro r w1 ⟨rfl,rfl⟩
      go_wp2_with fail
      generalize World.setCell w1 ⟨E.bb,6,none⟩ (.int .i64 s.i)=w2 at *
      refine HB.out.mono ?_
      rintro r w3 ⟨⟨v,rfl,rfl,h3⟩,k3⟩
      have HFi3:=hide (HFi.out w3 (HR0.out.kp (H0.out.nroRb k3)))
      have HBo3:=hide (k3.blk HBo0.out hnb)
      have H3:=hide (H0.out.read k3 h3)
      have HK3:=hide (HK0.out.trans (H0.out.nroRb k3))
      clear h3 k3 hc hf hc0 hf0
      go_wp2_with fail
      refine HFi3.out.mono ?_
      rintro r w4 ⟨rfl,k4⟩
      obtain⟨hc4,hf4⟩:=cells_of (k4.blk HBo3.out (fun h=>h))
      have hlb4:=lt_of_blk (k4.blk HBo3.out (fun h=>h))
      have HK4:=hide (HK3.out.trans k4.any)
      have H4:=hide ((H3.out.quiet k4).quiet ((Kp.refl no w4).alloc (.cells #[.int .u8 fr.toNat,.int .u8 up.toNat,.int .i64 bh,.string ⟨tk.toArray⟩,.string ⟨gv.toArray⟩] 329)))
      simp only[rowAgg,rowCells]
      clear k4
      have HC:=hide (HCn.out _ H4.out)
      clear H4
      go_wp2_with fail
      refine HC.out.mono ?_
      rintro r w5 ⟨⟨fv,rfl,fb,rfl,hfb,hfo⟩,k5⟩
      have HF:=hide hfo
      have HK5:=hide ((HK4.out.alloc _).trans k5)
      clear hfo k5
      go_wp2
      go_ret
      exact⟨⟨ptrTo fb,rfl,fb,rfl,by have :=HK4.out.size;simp at hfb;omega,HF.out⟩,HK5.out⟩
   |true=>
    by_cases h5:op=5
    ·have b5:(op==5)=true:=by simpa using h5
     rw[b5]at q5
     simp only[Bool.not_true]at q5
     rw[if_neg (by simp[h5])]at hM
     have b11:(op==11)=false:=by rw[h5];rfl
     rw[b11]at q11
     clear h5 b5 b11
     by_cases hb4:bh=4
     ·have qb:((bh:Int)==4)=true:=by rw[hb4];rfl
      have hmem:op∈([0,2,3,4,5,11,12,13,14,15,16,26,27,32,33,34,35,36]:List UInt8):=by simpa[rowFit,hb4]using hfit
      rw[if_pos hb4]at hM
      clear hb4
      clear HMq
      have hcon:=fun W (hW:BSt E g W {s with pos:=s.i,i:=j})=>special_any hW z1 hN hne op hmem
      generalize specialM E.c op {s with pos:=s.i,i:=j}=T at *
      have HCn:=hide hcon
      clear hcon
      subst hM
      cases R with
      |ok s1=>
       go_enter Tryz.func179,Tryz.ntmps179
       go_wp2_with fail
       refine HA.out.mono ?_
       rintro r w1 ⟨rfl,rfl⟩
       go_wp2_with fail
       generalize World.setCell w1 ⟨E.bb,6,none⟩ (.int .i64 s.i)=w2 at *
       refine HB.out.mono ?_
       rintro r w3 ⟨⟨v,rfl,rfl,h3⟩,k3⟩
       have HFi3:=hide (HFi.out w3 (HR0.out.kp (H0.out.nroRb k3)))
       have HBo3:=hide (k3.blk HBo0.out hnb)
       have H3:=hide (H0.out.read k3 h3)
       have HK3:=hide (HK0.out.trans (H0.out.nroRb k3))
       clear h3 k3 hc hf hc0 hf0
       go_wp2_with fail
       refine HFi3.out.mono ?_
       rintro r w4 ⟨rfl,k4⟩
       obtain⟨hc4,hf4⟩:=cells_of (k4.blk HBo3.out (fun h=>h))
       have hlb4:=lt_of_blk (k4.blk HBo3.out (fun h=>h))
       have HK4:=hide (HK3.out.trans k4.any)
       have H4:=hide ((H3.out.quiet k4).quiet ((Kp.refl no w4).alloc (.cells #[.int .u8 fr.toNat,.int .u8 up.toNat,.int .i64 bh,.string ⟨tk.toArray⟩,.string ⟨gv.toArray⟩] 329)))
       simp only[rowAgg,rowCells]
       clear k4
       have HC:=hide (HCn.out _ H4.out)
       clear H4
       go_wp2_with fail
       refine HC.out.mono ?_
       rintro r w5 ⟨⟨rfl,g1,h5⟩,k5⟩
       have H5:=hide h5
       have HK5:=hide ((HK4.out.alloc _).trans k5)
       clear h5 k5
       go_wp2
       go_ret
       exact⟨⟨rfl,g1,H5.out⟩,HK5.out⟩
      |error e=>
       go_enter Tryz.func179,Tryz.ntmps179
       go_wp2_with fail
       refine HA.out.mono ?_
       rintro r w1 ⟨rfl,rfl⟩
       go_wp2_with fail
       generalize World.setCell w1 ⟨E.bb,6,none⟩ (.int .i64 s.i)=w2 at *
       refine HB.out.mono ?_
       rintro r w3 ⟨⟨v,rfl,rfl,h3⟩,k3⟩
       have HFi3:=hide (HFi.out w3 (HR0.out.kp (H0.out.nroRb k3)))
       have HBo3:=hide (k3.blk HBo0.out hnb)
       have H3:=hide (H0.out.read k3 h3)
       have HK3:=hide (HK0.out.trans (H0.out.nroRb k3))
       clear h3 k3 hc hf hc0 hf0
       go_wp2_with fail
       refine HFi3.out.mono ?_
       rintro r w4 ⟨rfl,k4⟩
       obtain⟨hc4,hf4⟩:=cells_of (k4.blk HBo3.out (fun h=>h))
       have hlb4:=lt_of_blk (k4.blk HBo3.out (fun h=>h))
       have HK4:=hide (HK3.out.trans k4.any)
       have H4:=hide ((H3.out.quiet k4).quiet ((Kp.refl no w4).alloc (.cells #[.int .u8 fr.toNat,.int .u8 up.toNat,.int .i64 bh,.string ⟨tk.toArray⟩,.string ⟨gv.toArray⟩] 329)))
       simp only[rowAgg,rowCells]
       clear k4
       have HC:=hide (HCn.out _ H4.out)
       clear H4
       go_wp2_with fail
       refine HC.out.mono ?_
       rintro r w5 ⟨⟨fv,rfl,fb,rfl,hfb,hfo⟩,k5⟩
       have HF:=hide hfo
       have HK5:=hide ((HK4.out.alloc _).trans k5)
       clear hfo k5
       go_wp2
       go_ret
       exact⟨⟨ptrTo fb,rfl,fb,rfl,by have :=HK4.out.size;simp at hfb;omega,HF.out⟩,HK5.out⟩
     ·have hfit2:bh≤3∧tk.length≤2∧gv.length≤1:=by simpa[rowFit,hb4,and_assoc]using hfit
      have hbb:bh=0∨bh=1∨bh=2∨bh=3:=by omega
      have htk2:=hfit2.2.1
      have hgv2:=hfit2.2.2
      have qb:((bh:Int)==4)=false:=by simp;omega
      rw[if_neg hb4]at hM
      clear HMq
      have hcon:=fun W (hW:BSt E g W {s with pos:=s.i,i:=j})=>plain_any' hW z1 (by omega) hne op ⟨fr,up,bh,tk,gv⟩ hbb htk2 hgv2
      generalize plainB E.c op ⟨fr,up,bh,tk,gv⟩ {s with pos:=s.i,i:=j}=T at *
      have HCn:=hide hcon
      clear hcon
      subst hM
      cases R with
      |ok s1=>
       go_enter Tryz.func179,Tryz.ntmps179
       go_wp2_with fail
       refine HA.out.mono ?_
       rintro r w1 ⟨rfl,rfl⟩
       go_wp2_with fail
       generalize World.setCell w1 ⟨E.bb,6,none⟩ (.int .i64 s.i)=w2 at *
       refine HB.out.mono ?_
       rintro r w3 ⟨⟨v,rfl,rfl,h3⟩,k3⟩
       have HFi3:=hide (HFi.out w3 (HR0.out.kp (H0.out.nroRb k3)))
       have HBo3:=hide (k3.blk HBo0.out hnb)
       have H3:=hide (H0.out.read k3 h3)
       have HK3:=hide (HK0.out.trans (H0.out.nroRb k3))
       clear h3 k3 hc hf hc0 hf0
       go_wp2_with fail
       refine HFi3.out.mono ?_
       rintro r w4 ⟨rfl,k4⟩
       obtain⟨hc4,hf4⟩:=cells_of (k4.blk HBo3.out (fun h=>h))
       have hlb4:=lt_of_blk (k4.blk HBo3.out (fun h=>h))
       have HK4:=hide (HK3.out.trans k4.any)
       have H4:=hide ((H3.out.quiet k4).quiet ((Kp.refl no w4).alloc (.cells #[.int .u8 fr.toNat,.int .u8 up.toNat,.int .i64 bh,.string ⟨tk.toArray⟩,.string ⟨gv.toArray⟩] 329)))
       simp only[rowAgg,rowCells]
       clear k4
       have HC:=hide (HCn.out _ H4.out)
       clear H4
       go_wp2_with fail
       refine HC.out.mono ?_
       rintro r w5 ⟨⟨rfl,g1,h5⟩,k5⟩
       have H5:=hide h5
       have HK5:=hide ((HK4.out.alloc _).trans k5)
       clear h5 k5
       go_wp2
       go_ret
       exact⟨⟨rfl,g1,H5.out⟩,HK5.out⟩
      |error e=>
       go_enter Tryz.func179,Tryz.ntmps179
       go_wp2_with fail
       refine HA.out.mono ?_
       rintro r w1 ⟨rfl,rfl⟩
       go_wp2_with fail
       generalize World.setCell w1 ⟨E.bb,6,none⟩ (.int .i64 s.i)=w2 at *
       refine HB.out.mono ?_
       rintro r w3 ⟨⟨v,rfl,rfl,h3⟩,k3⟩
       have HFi3:=hide (HFi.out w3 (HR0.out.kp (H0.out.nroRb k3)))
       have HBo3:=hide (k3.blk HBo0.out hnb)
       have H3:=hide (H0.out.read k3 h3)
       have HK3:=hide (HK0.out.trans (H0.out.nroRb k3))
       clear h3 k3 hc hf hc0 hf0
       go_wp2_with fail
       refine HFi3.out.mono ?_
       rintro r w4 ⟨rfl,k4⟩
       obtain⟨hc4,hf4⟩:=cells_of (k4.blk HBo3.out (fun h=>h))
       have hlb4:=lt_of_blk (k4.blk HBo3.out (fun h=>h))
       have HK4:=hide (HK3.out.trans k4.any)
       have H4:=hide ((H3.out.quiet k4).quiet ((Kp.refl no w4).alloc (.cells #[.int .u8 fr.toNat,.int .u8 up.toNat,.int .i64 bh,.string ⟨tk.toArray⟩,.string ⟨gv.toArray⟩] 329)))
       simp only[rowAgg,rowCells]
       clear k4
       have HC:=hide (HCn.out _ H4.out)
       clear H4
       go_wp2_with fail
       refine HC.out.mono ?_
       rintro r w5 ⟨⟨fv,rfl,fb,rfl,hfb,hfo⟩,k5⟩
       have HF:=hide hfo
       have HK5:=hide ((HK4.out.alloc _).trans k5)
       clear hfo k5
       go_wp2
       go_ret
       exact⟨⟨ptrTo fb,rfl,fb,rfl,by have :=HK4.out.size;simp at hfb;omega,HF.out⟩,HK5.out⟩
    ·have b5:(op==5)=false:=by simpa using h5
     rw[b5]at q5
     simp only[Bool.not_false]at q5
     by_cases h11:op=11
     ·have b11:(op==11)=true:=by simpa using h11
      rw[b11]at q11
      simp only[Bool.not_true]at q11
      rw[if_neg (by simp[h11])]at hM
      clear h11 b11 h5 b5
      by_cases hb4:bh=4
      ·have qb:((bh:Int)==4)=true:=by rw[hb4];rfl
       have hmem:op∈([0,2,3,4,5,11,12,13,14,15,16,26,27,32,33,34,35,36]:List UInt8):=by simpa[rowFit,hb4]using hfit
       rw[if_pos hb4]at hM
       clear hb4
       clear HMq
       have hcon:=fun W (hW:BSt E g W {s with pos:=s.i,i:=j})=>special_any hW z1 hN hne op hmem
       generalize specialM E.c op {s with pos:=s.i,i:=j}=T at *
       have HCn:=hide hcon
       clear hcon
       subst hM
       cases R with
       |ok s1=>
        go_enter Tryz.func179,Tryz.ntmps179
        go_wp2_with fail
        refine HA.out.mono ?_
        rintro r w1 ⟨rfl,rfl⟩
        go_wp2_with fail
        generalize World.setCell w1 ⟨E.bb,6,none⟩ (.int .i64 s.i)=w2 at *
        refine HB.out.mono ?_
        rintro r w3 ⟨⟨v,rfl,rfl,h3⟩,k3⟩
        have HFi3:=hide (HFi.out w3 (HR0.out.kp (H0.out.nroRb k3)))
        have HBo3:=hide (k3.blk HBo0.out hnb)
        have H3:=hide (H0.out.read k3 h3)
        have HK3:=hide (HK0.out.trans (H0.out.nroRb k3))
        clear h3 k3 hc hf hc0 hf0
        go_wp2_with fail
        refine HFi3.out.mono ?_
        rintro r w4 ⟨rfl,k4⟩
        obtain⟨hc4,hf4⟩:=cells_of (k4.blk HBo3.out (fun h=>h))
        have hlb4:=lt_of_blk (k4.blk HBo3.out (fun h=>h))
        have HK4:=hide (HK3.out.trans k4.any)
        have H4:=hide ((H3.out.quiet k4).quiet ((Kp.refl no w4).alloc (.cells #[.int .u8 fr.toNat,.int .u8 up.toNat,.int .i64 bh,.string ⟨tk.toArray⟩,.string ⟨gv.toArray⟩] 329)))
        simp only[rowAgg,rowCells]
        clear k4
        have HC:=hide (HCn.out _ H4.out)
        clear H4
        go_wp2_with fail
        refine HC.out.mono ?_
        rintro r w5 ⟨⟨rfl,g1,h5⟩,k5⟩
        have H5:=hide h5
        have HK5:=hide ((HK4.out.alloc _).trans k5)
        clear h5 k5
        go_wp2
        go_ret
        exact⟨⟨rfl,g1,H5.out⟩,HK5.out⟩
       |error e=>
        go_enter Tryz.func179,Tryz.ntmps179
        go_wp2_with fail
        refine HA.out.mono ?_
        rintro r w1 ⟨rfl,rfl⟩
        go_wp2_with fail
        generalize World.setCell w1 ⟨E.bb,6,none⟩ (.int .i64 s.i)=w2 at *
        refine HB.out.mono ?_
        rintro r w3 ⟨⟨v,rfl,rfl,h3⟩,k3⟩
        have HFi3:=hide (HFi.out w3 (HR0.out.kp (H0.out.nroRb k3)))
        have HBo3:=hide (k3.blk HBo0.out hnb)
        have H3:=hide (H0.out.read k3 h3)
        have HK3:=hide (HK0.out.trans (H0.out.nroRb k3))
        clear h3 k3 hc hf hc0 hf0
        go_wp2_with fail
        refine HFi3.out.mono ?_
        rintro r w4 ⟨rfl,k4⟩
        obtain⟨hc4,hf4⟩:=cells_of (k4.blk HBo3.out (fun h=>h))
        have hlb4:=lt_of_blk (k4.blk HBo3.out (fun h=>h))
        have HK4:=hide (HK3.out.trans k4.any)
        have H4:=hide ((H3.out.quiet k4).quiet ((Kp.refl no w4).alloc (.cells #[.int .u8 fr.toNat,.int .u8 up.toNat,.int .i64 bh,.string ⟨tk.toArray⟩,.string ⟨gv.toArray⟩] 329)))
        simp only[rowAgg,rowCells]
        clear k4
        have HC:=hide (HCn.out _ H4.out)
        clear H4
        go_wp2_with fail
        refine HC.out.mono ?_
        rintro r w5 ⟨⟨fv,rfl,fb,rfl,hfb,hfo⟩,k5⟩
        have HF:=hide hfo
        have HK5:=hide ((HK4.out.alloc _).trans k5)
        clear hfo k5
        go_wp2
        go_ret
        exact⟨⟨ptrTo fb,rfl,fb,rfl,by have :=HK4.out.size;simp at hfb;omega,HF.out⟩,HK5.out⟩
      ·have hfit2:bh≤3∧tk.length≤2∧gv.length≤1:=by simpa[rowFit,hb4,and_assoc]using hfit
       have hbb:bh=0∨bh=1∨bh=2∨bh=3:=by omega
       have htk2:=hfit2.2.1
       have hgv2:=hfit2.2.2
       have qb:((bh:Int)==4)=false:=by simp;omega
       rw[if_neg hb4]at hM
       clear HMq
       have hcon:=fun W (hW:BSt E g W {s with pos:=s.i,i:=j})=>plain_any' hW z1 (by omega) hne op ⟨fr,up,bh,tk,gv⟩ hbb htk2 hgv2
       generalize plainB E.c op ⟨fr,up,bh,tk,gv⟩ {s with pos:=s.i,i:=j}=T at *
       have HCn:=hide hcon
       clear hcon
       subst hM
       cases R with
       |ok s1=>
        go_enter Tryz.func179,Tryz.ntmps179
        go_wp2_with fail
        refine HA.out.mono ?_
        rintro r w1 ⟨rfl,rfl⟩
        go_wp2_with fail
        generalize World.setCell w1 ⟨E.bb,6,none⟩ (.int .i64 s.i)=w2 at *
        refine HB.out.mono ?_
        rintro r w3 ⟨⟨v,rfl,rfl,h3⟩,k3⟩
        have HFi3:=hide (HFi.out w3 (HR0.out.kp (H0.out.nroRb k3)))
        have HBo3:=hide (k3.blk HBo0.out hnb)
        have H3:=hide (H0.out.read k3 h3)
        have HK3:=hide (HK0.out.trans (H0.out.nroRb k3))
        clear h3 k3 hc hf hc0 hf0
        go_wp2_with fail
        refine HFi3.out.mono ?_
        rintro r w4 ⟨rfl,k4⟩
        obtain⟨hc4,hf4⟩:=cells_of (k4.blk HBo3.out (fun h=>h))
        have hlb4:=lt_of_blk (k4.blk HBo3.out (fun h=>h))
        have HK4:=hide (HK3.out.trans k4.any)
        have H4:=hide ((H3.out.quiet k4).quiet ((Kp.refl no w4).alloc (.cells #[.int .u8 fr.toNat,.int .u8 up.toNat,.int .i64 bh,.string ⟨tk.toArray⟩,.string ⟨gv.toArray⟩] 329)))
        simp only[rowAgg,rowCells]
        clear k4
        have HC:=hide (HCn.out _ H4.out)
        clear H4
        go_wp2_with fail
        refine HC.out.mono ?_
        rintro r w5 ⟨⟨rfl,g1,h5⟩,k5⟩
        have H5:=hide h5
        have HK5:=hide ((HK4.out.alloc _).trans k5)
        clear h5 k5
        go_wp2
        go_ret
        exact⟨⟨rfl,g1,H5.out⟩,HK5.out⟩
       |error e=>
        go_enter Tryz.func179,Tryz.ntmps179
        go_wp2_with fail
        refine HA.out.mono ?_
        rintro r w1 ⟨rfl,rfl⟩
        go_wp2_with fail
        generalize World.setCell w1 ⟨E.bb,6,none⟩ (.int .i64 s.i)=w2 at *
        refine HB.out.mono ?_
        rintro r w3 ⟨⟨v,rfl,rfl,h3⟩,k3⟩
        have HFi3:=hide (HFi.out w3 (HR0.out.kp (H0.out.nroRb k3)))
        have HBo3:=hide (k3.blk HBo0.out hnb)
        have H3:=hide (H0.out.read k3 h3)
        have HK3:=hide (HK0.out.trans (H0.out.nroRb k3))
        clear h3 k3 hc hf hc0 hf0
        go_wp2_with fail
        refine HFi3.out.mono ?_
        rintro r w4 ⟨rfl,k4⟩
        obtain⟨hc4,hf4⟩:=cells_of (k4.blk HBo3.out (fun h=>h))
        have hlb4:=lt_of_blk (k4.blk HBo3.out (fun h=>h))
        have HK4:=hide (HK3.out.trans k4.any)
        have H4:=hide ((H3.out.quiet k4).quiet ((Kp.refl no w4).alloc (.cells #[.int .u8 fr.toNat,.int .u8 up.toNat,.int .i64 bh,.string ⟨tk.toArray⟩,.string ⟨gv.toArray⟩] 329)))
        simp only[rowAgg,rowCells]
        clear k4
        have HC:=hide (HCn.out _ H4.out)
        clear H4
        go_wp2_with fail
        refine HC.out.mono ?_
        rintro r w5 ⟨⟨fv,rfl,fb,rfl,hfb,hfo⟩,k5⟩
        have HF:=hide hfo
        have HK5:=hide ((HK4.out.alloc _).trans k5)
        clear hfo k5
        go_wp2
        go_ret
        exact⟨⟨ptrTo fb,rfl,fb,rfl,by have :=HK4.out.size;simp at hfb;omega,HF.out⟩,HK5.out⟩
     ·have b11:(op==11)=false:=by simpa using h11
      rw[b11]at q11
      simp only[Bool.not_false]at q11
      rw[if_pos ⟨hcl,h5,h11⟩]at hM
      have HMr:=hide hM
      clear hM h5 h11 b5 b11 HMq
      go_enter Tryz.func179,Tryz.ntmps179
      go_wp2_with fail
      refine HA.out.mono ?_
      rintro r w1 ⟨rfl,rfl⟩
      go_wp2_with fail
      generalize World.setCell w1 ⟨E.bb,6,none⟩ (.int .i64 s.i)=w2 at *
      refine HB.out.mono ?_
      rintro r w3 ⟨⟨v,rfl,rfl,h3⟩,k3⟩
      have HFi3:=hide (HFi.out w3 (HR0.out.kp (H0.out.nroRb k3)))
      have HBo3:=hide (k3.blk HBo0.out hnb)
      have H3:=hide (H0.out.read k3 h3)
      have HK3:=hide (HK0.out.trans (H0.out.nroRb k3))
      clear h3 k3 hc hf hc0 hf0
      go_wp2_with fail
      refine HFi3.out.mono ?_
      rintro r w4 ⟨rfl,k4⟩
      obtain⟨hc4,hf4⟩:=cells_of (k4.blk HBo3.out (fun h=>h))
      have hlb4:=lt_of_blk (k4.blk HBo3.out (fun h=>h))
      have HK4:=hide (HK3.out.trans k4.any)
      have H4:=hide ((H3.out.quiet k4).quiet ((Kp.refl no w4).alloc (.cells #[.int .u8 fr.toNat,.int .u8 up.toNat,.int .i64 bh,.string ⟨tk.toArray⟩,.string ⟨gv.toArray⟩] 329)))
      simp only[rowAgg,rowCells]
      clear k4
      have HW:=hide (wrong_any H4.out)
      go_wp2_with fail
      refine HW.out.mono ?_
      rintro e w8 ⟨⟨fv,rfl,fb,rfl,hfb,hfo⟩,k8⟩
      have HF:=hide hfo
      clear hfo
      go_wp2
      go_ret
      rw[HMr.out]
      exact⟨⟨ptrTo fb,rfl,fb,rfl,by have :=HK4.out.size;simp at hfb;omega,HF.out⟩,(HK4.out.alloc _).trans k8.any⟩
end

end Go.Proofs.YtdeplgkhmebalaaGreatDoor

set_option linter.unusedSimpArgs false
set_option linter.unusedVariables false
namespace Go.Proofs.YtdeplgkhmebalaaGreatDoor
open Go.RowKit

section
variable{N:Nat} {s s1:Bd} {c:Ctx}

theorem sunk_i {s s':Bd} (h:Sunk s s'):s'.i=s.i∧s'.blocks=s.blocks∧s'.code=s.code:=by
 obtain⟨l,rfl,-⟩:=h;exact⟨rfl,rfl,rfl⟩
theorem jump_i (op:UInt8) (k:Nat):(jumpM s op k).i=s.i:=by unfold jumpM;split <;>rfl
theorem aim_same (n:Nat):(aimM s n).i=s.i∧(aimM s n).stack=s.stack∧(aimM s n).blocks=s.blocks∧(aimM s n).code.length=s.code.length:=⟨rfl,rfl,rfl,by simp[aimM]⟩
theorem aimAll_sz (l:List Nat): ∀{s:Bd},Sz N s→Sz N (aimAll l s):=by
 induction l with
 |nil=>intro s z;exact z
 |cons a l ih=>intro s z;exact ih (aim_sz z a)

theorem stop_keep (z:Sz N s) (h:stopM s= .ok s1):Sz (N+1) s1∧s.i≤s1.i:=by
 cases h
 exact⟨(emit_sz z _).read s.i s.pos true,Nat.le_refl _⟩
theorem oneOf_range {D al:List UInt8} {i:Nat} {t:UInt8} {j:Nat} (h:oneOfM D al i= .ok (t,j)):j=i+1∧t∈al:=by
 unfold oneOfM byteM at h
 split at h
 ·rename_i h1
  cases h
 ·rename_i t' j' h1
  split at h1
  ·cases h1
   split at h
   ·rename_i hm;cases h;exact⟨rfl,hm⟩
   ·cases h
  ·cases h1
theorem push_sz (z:Sz N s) (b:Bk) (x:Ins) (hl:s.blocks.length≤16) (hh:b.height=s.stack.length) (hs:b.start=s.code.length+1) (hr:b.result.length≤1) (hw:b.waits=[]):
  Sz (N+1) {emitM s x with blocks:=s.blocks++[b]}:=by
 have hb: ∀j,Bd.bk {emitM s x with blocks:=s.blocks++[b]} j=if j<s.blocks.length then s.bk j else if j=s.blocks.length then b else noBk:=by
  intro j
  show(s.blocks++[b]).getD j noBk=_
  rw[List.getD]
  split
  ·rename_i h;rw[List.getElem?_append_left h];rfl
  ·rename_i h
   rw[List.getElem?_append_right (by omega)]
   split
   ·rename_i h2;subst h2;simp
   ·rw[List.getElem?_eq_none (by simp;omega)];rfl
 have hcl:(emitM s x).code.length=s.code.length+1:=by simp[emitM]
 have hst:=z.st
 have hcd:=z.cd
 refine⟨by simp;omega,by show s.stack.length≤N+1;omega,by show(emitM s x).code.length≤N+1;omega,?_,?_,?_⟩
 ·unfold Bd.top
  rw[hb]
  simp only[List.length_append,List.length_cons,List.length_nil]
  rw[if_neg (by omega),if_pos (by omega),hh]
  exact Nat.le_refl _
 ·intro j k hjk hk
  simp only[List.length_append,List.length_cons,List.length_nil]at hk
  rw[hb,hb]
  by_cases h1:k<s.blocks.length
  ·rw[if_pos h1,if_pos (by omega)];exact z.mono j k hjk h1
  ·rw[if_neg h1,if_pos (show k=s.blocks.length by omega)]
   by_cases h2:j<s.blocks.length
   ·rw[if_pos h2,hh];exact z.height h2
   ·rw[if_neg h2,if_pos (by omega)];exact Nat.le_refl _
 ·intro k hk
  simp only[List.length_append,List.length_cons,List.length_nil]at hk
  rw[hb]
  show _∧_∧_∧(∀n∈_,n<(emitM s x).code.length)∧(_→_∧_≤(emitM s x).code.length)
  rw[hcl]
  by_cases h1:k<s.blocks.length
  ·rw[if_pos h1]
   have :=z.wt k h1
   exact⟨by omega,by omega,this.2.2.1,fun n hn=>by have :=this.2.2.2.1 n hn;omega,fun h3=>by have :=this.2.2.2.2 h3;omega⟩
  ·rw[if_neg h1,if_pos (show k=s.blocks.length by omega),hw,hs]
   exact⟨by simp,by omega,hr,fun n hn=>by simp at hn,fun _=>by omega⟩
theorem open_keep (z:Sz N s) (op:UInt8) (h:openM c op s= .ok s1):Sz (N+1) s1∧s.i≤s1.i:=by
 unfold openM at h
 split at h
 ·cases h
 ·rename_i t j ho
  have hj:=oneOf_range ho
  split at h
  ·cases h
  ·rename_i s2 hs2
   have hz:Sz N s2∧s2.i=j:=by
    split at hs2
    ·exact⟨take_sz (z.read j s.pos s.closed) hs2,(sunk_i (take_sunk hs2)).1⟩
    ·cases hs2;exact⟨z.read j s.pos s.closed,rfl⟩
   split at h
   ·cases h
   ·rename_i h16
    cases h
    have hb:=hz.1.bl
    refine⟨push_sz hz.1 _ _ (by omega) rfl rfl ?_ rfl,?_⟩
    ·simp only;split <;>simp
    ·show s.i≤s2.i
     omega
theorem kind_sz (z:Sz N s) (hl:0<s.blocks.length) (cl:Bool):Sz N {s with blocks:=s.blocks.set (s.blocks.length -1) {s.top with kind:=4},stack:=s.stack.take s.top.height,closed:=cl}:=by
 have hkl:s.blocks.length -1<s.blocks.length:=by omega
 have hb: ∀j,Bd.bk {s with blocks:=s.blocks.set (s.blocks.length -1) {s.top with kind:=4},stack:=s.stack.take s.top.height,closed:=cl} j=if s.blocks.length -1=j then {s.top with kind:=4}else s.bk j:=fun j=>bk_set hkl _ j
 have hh: ∀j,(Bd.bk {s with blocks:=s.blocks.set (s.blocks.length -1) {s.top with kind:=4},stack:=s.stack.take s.top.height,closed:=cl} j).height=(s.bk j).height:=by
  intro j;rw[hb];split
  ·rename_i e;rw[←e];rfl
  ·rfl
 have ht:=z.top
 have hst:=z.st
 refine⟨by simpa using z.bl,by simp;omega,z.cd,?_,?_,?_⟩
 ·refine Nat.le_trans (Nat.le_of_eq (hh _)) ?_
  simp only[List.length_set,List.length_take]
  show s.top.height≤_
  omega
 ·intro j k hjk hk
  rw[hh,hh];exact z.mono j k hjk (by simpa using hk)
 ·intro j hj
  have hj':j<s.blocks.length:=by simpa using hj
  rw[hb]
  split
  ·rename_i e
   subst e
   have :=z.wt _ hj'
   exact⟨this.1,this.2.1,this.2.2.1,this.2.2.2.1,fun h=>by cases h⟩
  ·exact z.wt j hj'
theorem turn_keep (hne:s.blocks≠[]) (z:Sz N s) (h:turnM s= .ok s1):Sz (N+1) s1∧s.i≤s1.i:=by
 have hl:0<s.blocks.length:=List.length_pos_iff.2 hne
 have hkl:s.blocks.length -1<s.blocks.length:=by omega
 unfold turnM at h
 split at h
 ·cases h
 ·cases h
  have zj:=jump_sz z 5 hkl
  have za:=aim_sz zj (s.top.start -1)
  have hji:(jumpM s 5 (s.blocks.length -1)).i=s.i:=jump_i 5 _
  have hai:(aimM (jumpM s 5 (s.blocks.length -1)) (s.top.start -1)).i=s.i:=hji
  have hal:(aimM (jumpM s 5 (s.blocks.length -1)) (s.top.start -1)).blocks.length=s.blocks.length:=(jump_same 5 hkl).2.1
  generalize aimM (jumpM s 5 (s.blocks.length -1)) (s.top.start -1)=sa at *
  exact⟨kind_sz za (by omega) false,by show s.i≤sa.i;omega⟩
theorem pop_sz (z:Sz N s) (hl:0<s.blocks.length) (res:List UInt8) (hr:res.length≤1) (cl:Bool):Sz (N+1) {s with stack:=s.stack.take s.top.height++res,blocks:=s.blocks.take (s.blocks.length -1),closed:=cl}:=by
 have hb: ∀j,j<s.blocks.length -1→Bd.bk {s with stack:=s.stack.take s.top.height++res,blocks:=s.blocks.take (s.blocks.length -1),closed:=cl} j=s.bk j:=by
  intro j hj
  show(s.blocks.take (s.blocks.length -1)).getD j noBk=s.blocks.getD j noBk
  rw[List.getD,List.getElem?_take,if_pos hj];rfl
 have hlen:(s.blocks.take (s.blocks.length -1)).length=s.blocks.length -1:=by simp
 have ht:=z.top
 have hst:=z.st
 refine⟨by have :=z.bl;simp only[hlen];omega,by simp;omega,Nat.le_succ_of_le z.cd,?_,?_,?_⟩
 ·by_cases h1:s.blocks.length -1=0
  ·show((s.blocks.take (s.blocks.length -1)).getD ((s.blocks.take (s.blocks.length -1)).length -1) noBk).height≤_
   rw[h1];simp[noBk]
  ·refine Nat.le_trans (Nat.le_of_eq (congrArg Bk.height (hb _ (by simp only[hlen];omega)))) ?_
   simp only[hlen]
   have :=z.mono (s.blocks.length -1 -1) (s.blocks.length -1) (by omega) (by omega)
   have h2:(s.bk (s.blocks.length -1)).height=s.top.height:=rfl
   simp;omega
 ·intro j k hjk hk
  simp only[hlen]at hk
  rw[hb j (by omega),hb k hk];exact z.mono j k hjk (by omega)
 ·intro k hk
  simp only[hlen]at hk
  rw[hb k hk]
  have :=z.wt k (by omega)
  exact⟨by omega,by omega,this.2.2⟩
theorem end_keep (hne:s.blocks≠[]) (z:Sz N s) (h:endM s= .ok s1):Sz (N+2) s1∧s.i≤s1.i:=by
 have hl:0<s.blocks.length:=List.length_pos_iff.2 hne
 have hkl:s.blocks.length -1<s.blocks.length:=by omega
 have hres:=(z.wt _ hkl).2.2.1
 change s.top.result.length≤1 at hres
 unfold endM at h
 split at h
 ·cases h
 ·simp only at h
  have z1:Sz N (if s.top.kind=3 then aimM s (s.top.start -1)else s):=by
   split
   ·exact aim_sz z _
   ·exact z
  have e1:(if s.top.kind=3 then aimM s (s.top.start -1)else s).stack=s.stack∧(if s.top.kind=3 then aimM s (s.top.start -1)else s).blocks=s.blocks∧(if s.top.kind=3 then aimM s (s.top.start -1)else s).i=s.i:=by
   split
   ·exact⟨rfl,rfl,rfl⟩
   ·exact⟨rfl,rfl,rfl⟩
  generalize(if s.top.kind=3 then aimM s (s.top.start -1)else s)=sa at *
  have z2:=aimAll_sz s.top.waits z1
  obtain⟨a1,a2,-,a4,-,-⟩:=aimAll_same s.top.waits sa
  rw[e1.1]at a1
  rw[e1.2.1]at a2
  rw[e1.2.2]at a4
  generalize aimAll s.top.waits sa=sb at *
  have z3:Sz (N+1) (if s.top.kind=0 then emitM sb ⟨11,0,0,0,0⟩else sb):=by
   split
   ·exact emit_sz z2 _
   ·exact z2.le (by omega)
  have e3:(if s.top.kind=0 then emitM sb ⟨11,0,0,0,0⟩else sb).stack=s.stack∧(if s.top.kind=0 then emitM sb ⟨11,0,0,0,0⟩else sb).blocks=s.blocks∧(if s.top.kind=0 then emitM sb ⟨11,0,0,0,0⟩else sb).i=s.i:=by
   split
   ·exact⟨a1,a2,a4⟩
   ·exact⟨a1,a2,a4⟩
  generalize(if s.top.kind=0 then emitM sb ⟨11,0,0,0,0⟩else sb)=sc at *
  have ht:sc.top=s.top:=by show sc.blocks.getD (sc.blocks.length -1) noBk=s.blocks.getD (s.blocks.length -1) noBk;rw[e3.2.1]
  have hp:=pop_sz z3 (by rw[e3.2.1];exact hl) s.top.result hres false
  rw[ht]at hp
  cases h
  exact⟨hp,by show s.i≤sc.i;omega⟩
end

end Go.Proofs.YtdeplgkhmebalaaGreatDoor
