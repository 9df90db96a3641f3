/- The program's look at a body: locals. -/
import Derived.Test.YtdeplgkhmebalaaGreatDoorP18
import Derived.Test.YtdeplgkhmebalaaGreatDoorP17

set_option linter.unusedSimpArgs false
set_option linter.unusedVariables false
set_option maxHeartbeats 3000000
set_option maxRecDepth 100000
namespace Go.Proofs.YtdeplgkhmebalaaGreatDoor
open Go.RowKit

section
variable{E:Env} {g N:Nat} {w:World} {s:Bd}

theorem BSt.modAt (h:BSt E g w s): ∃cv,w.heap[E.mb]? =some (modObj E cv)∧E.bb≠E.rb∧E.mb≠E.rb∧E.mb≠E.bb:=by
 obtain⟨role,sv,cv,kc,bs,h⟩:=h
 refine⟨cv,h.mod,fun e=> ?_,fun e=> ?_,fun e=> ?_⟩
 ·have :=h.r3;rw[e,h.r1]at this;cases this
 ·have :=h.r2;rw[e,h.r1]at this;cases this
 ·have :=h.r2;rw[e,h.r3]at this;cases this

theorem u8_ne (x y:UInt8):((x.toNat:Int) !=(y.toNat:Int))= !(x==y):=by rw[bne,u8_eq]

theorem local_any (h:BSt E g w s) (z:Sz N s) (hN:N≤500000) (hne:s.blocks≠[]) (op:UInt8):Calls Tryz.prog 265 #[ptrTo E.bb,.int .u8 op.toNat] w fun r w'=>Done E w w' (localM E.c op s) r∧Kp (nro E.ro) w w':=by
 have hM:localM E.c op s=(match belowM E.c.D E.c.locals.length s.i with
  | .error e=> .error e
  | .ok (n,j)=>
   match (if op=32 then some {s with i:=j}else takeM {s with i:=j} (E.c.locals.getD n 0))with
   |none=>wrongM s
   |some s1=> .ok (if op=33 then emitM s1 ⟨op,n,0,0,0⟩else putM (emitM s1 ⟨op,n,0,0,0⟩) [E.c.locals.getD n 0])):=rfl
 generalize localM E.c op s=R at *
 have hst:=z.st
 have hcd:=z.cd
 have hen:=h.env
 have hnl:=hen.nl
 obtain⟨lad,lcap,hlv,hlc⟩:=hen.locals.shape
 have hbe:=fun W (k:Kp no w W)=>below_any (h.quiet k).rd E.c.locals.length (by omega) (by omega)
 have hlt:=fun n j=>below_lt (D:=E.c.D) (lim:=(E.c.locals.length:Int)) (i:=s.i) (n:=n) (j:=j)
 generalize belowM E.c.D E.c.locals.length s.i=Q at *
 have H:=hide h
 obtain⟨sv,kc,hbo,-⟩:=h.bodyAt
 obtain⟨cv,hmo,hnb,hnm,hmb⟩:=h.modAt
 simp only[bodyObj]at hbo
 rw[hlv]at hbo
 obtain⟨hc,hf⟩:=cells_of hbo
 obtain⟨hm,hmf⟩:=cells_of hmo
 have HBo:=hide hbo
 have HMo:=hide hmo
 have HB:=hide hbe
 have HLV:=hide hlv
 have q32:((op.toNat:Int) !=32)= !(op==32):=u8_ne op 32
 have q33:((op.toNat:Int) !=33)= !(op==33):=u8_ne op 33
 clear h hbe hbo hmo hlv hen
 match Q,hM,HB,hlt with
 | .error e,hM,HB,_=>
  have HM:=hide hM
  clear hM
  go_enter Tryz.func265,Tryz.ntmps265
  go_wp2_with fail
  go_region_held3 (fun w'=>w'.cell? ⟨E.bb,0,none⟩=some (ptrTo E.rb)∧w'.cell? ⟨E.bb,3,none⟩=some (.slice lad E.c.locals.length lcap)) (go_keep) (first |(go_at_call 105;refine(HB.out w.drew ((Kp.refl no w).drew)).mono ?_;rintro e w1 ⟨⟨fv,j,rfl,⟨fb,rfl,hfb,hfo⟩,h1⟩,k1⟩;obtain⟨hc1,hf1⟩:=cells_of (k1.blk (show w.drew.heap[E.bb]? =_ from HBo.out) hnb);obtain⟨hm1,hmf1⟩:=cells_of (k1.blk (show w.drew.heap[E.mb]? =_ from HMo.out) hnm)))
  have HF:=hide hfo
  clear hfo h1
  go_wp2
  go_ret
  rw[HM.out]
  exact⟨⟨ptrTo fb,rfl,fb,rfl,hfb,HF.out⟩,H.out.nroRb ((Kp.refl (one E.rb) w).drew.trans k1)⟩
 | .ok (n,j),hM,HB,hlt=>
  have hn:=(hlt n j rfl).1
  clear hlt
  simp only at hM
  have hcell: ∀W,E.Ok W→ ∃a o,lad=some ⟨a,o,none⟩∧W.cell? ⟨a,o+n,none⟩=some (.int .u8 (E.c.locals.getD n 0).toNat):=by
   intro W hW
   obtain⟨a,o,cap,hv,_,hce⟩:=hW.locals.get (show n<E.c.locals.length by omega)
   rw[HLV.out]at hv
   simp only[Value.slice.injEq]at hv
   exact⟨a,o,hv.1,hce⟩
  have HCe:=hide hcell
  clear hcell
  have z0:Sz N {s with i:=j}:=z.read j s.pos s.closed
  by_cases h32:op=32
  ·have b32:(op==32)=true:=by simpa using h32
   have b33:(op==33)=false:=by rw[h32];rfl
   have e33:op≠33:=by rw[h32];decide
   rw[if_pos h32]at hM
   simp only[if_neg e33]at hM
   rw[b32]at q32
   rw[b33]at q33
   simp only[Bool.not_true,Bool.not_false]at q32 q33
   have HM:=hide hM
   clear hM h32 b32 b33 e33
   obtain⟨a0,o0,had,hlc0⟩:=HCe.out w H.out.env
   subst had
   go_enter Tryz.func265,Tryz.ntmps265
   go_wp2_with fail
   go_region_held3 (fun w'=>w'.cell? ⟨E.bb,0,none⟩=some (ptrTo E.rb)∧w'.cell? ⟨E.bb,3,none⟩=some (.slice (some ⟨a0,o0,none⟩) E.c.locals.length lcap)) (go_keep) (first |(go_at_call 105;refine(HB.out w.drew ((Kp.refl no w).drew)).mono ?_;rintro e w1 ⟨⟨v,rfl,rfl,h1⟩,k1⟩;obtain⟨hc1,hf1⟩:=cells_of (k1.blk (show w.drew.heap[E.bb]? =_ from HBo.out) hnb);obtain⟨hm1,hmf1⟩:=cells_of (k1.blk (show w.drew.heap[E.mb]? =_ from HMo.out) hnm)))
   have HK1:=hide ((Kp.refl (one E.rb) w).drew.trans k1)
   have H1:=hide (H.out.read HK1.out h1)
   clear h1 k1
   obtain⟨a1,o1,had,hlc1⟩:=HCe.out w1 H1.out.env
   cases had
   generalize E.c.locals.getD n 0=t at *
   have HE:=hide (emit_any H1.out ⟨op,n,0,0,0⟩ (by simp only;omega))
   clear hc hf hm hmf hm1 hmf1 hlc0
   go_wp2_with fail
   refine HE.out.mono ?_
   rintro e w2 ⟨rfl,h2,k2⟩
   have HP:=hide (put_any (h2.quiet ((Kp.refl no w2).alloc (.cells #[.int .u8 t.toNat] 5))) (one_byte w2 t) (by simp only;omega) (by simp))
   have HK2:=hide ((H.out.nroRb HK1.out).trans k2)
   clear h2 k2
   go_wp2_with fail
   refine HP.out.mono ?_
   rintro e w3 ⟨rfl,h3,k3⟩
   have H3:=hide h3
   have HK3:=hide ((HK2.out.alloc _).trans k3)
   clear h3 k3
   go_wp2
   go_ret
   rw[HM.out]
   exact⟨⟨rfl,g,H3.out⟩,HK3.out⟩
  ·have b32:(op==32)=false:=by simpa using h32
   rw[if_neg h32]at hM
   rw[b32]at q32
   simp only[Bool.not_false]at q32
   clear h32 b32
   have hta:=fun W (h1:BSt E g W {s with i:=j})=>take_any' h1 hne z.bl (by simp only;omega) (E.c.locals.getD n 0)
   have hzz: ∀s2,takeM {s with i:=j} (E.c.locals.getD n 0)=some s2→Sz N s2∧Sunk {s with i:=j} s2:=fun s2 h2=>⟨take_sz z0 h2,take_sunk h2⟩
   obtain⟨a0,o0,had,hlc0⟩:=HCe.out w H.out.env
   subst had
   generalize E.c.locals.getD n 0=t at *
   generalize takeM {s with i:=j} t=Q2 at *
   have HT:=hide hta
   clear hta
   match Q2,hM,HT,hzz with
   |none,hM,HT,_=>
    have HM:=hide hM
    clear hM
    go_enter Tryz.func265,Tryz.ntmps265
    go_wp2_with fail
    go_region_held3 (fun w'=>w'.cell? ⟨E.bb,0,none⟩=some (ptrTo E.rb)∧w'.cell? ⟨E.bb,3,none⟩=some (.slice (some ⟨a0,o0,none⟩) E.c.locals.length lcap)) (go_keep) (first |(go_at_call 105;refine(HB.out w.drew ((Kp.refl no w).drew)).mono ?_;rintro e w1 ⟨⟨v,rfl,rfl,h1⟩,k1⟩;obtain⟨hc1,hf1⟩:=cells_of (k1.blk (show w.drew.heap[E.bb]? =_ from HBo.out) hnb);obtain⟨hm1,hmf1⟩:=cells_of (k1.blk (show w.drew.heap[E.mb]? =_ from HMo.out) hnm)))
    have HK1:=hide ((Kp.refl (one E.rb) w).drew.trans k1)
    have H1:=hide (H.out.read HK1.out h1)
    clear h1 k1
    obtain⟨a1,o1,had,hlc1⟩:=HCe.out w1 H1.out.env
    cases had
    have HT1:=hide (HT.out w1 H1.out)
    clear hc hf hm hmf hm1 hmf1 hlc0
    go_wp2_with fail
    refine HT1.out.mono ?_
    rintro r w2 ⟨⟨rfl,s2,h1,hs2⟩,k2⟩
    have hp:s2.pos=s.pos:=hs2.pos
    have HK:=hide ((H.out.nroRb HK1.out).trans (H1.out.nroBb k2))
    clear hs2
    have HP:=hide hp
    have HW:=hide (wrong_any h1)
    clear h1 hp
    go_wp2_with fail
    refine HW.out.mono ?_
    rintro e w8 ⟨⟨fv,rfl,fb,rfl,hfb,hfo⟩,k8⟩
    have HF:=hide hfo
    clear hfo
    go_wp2
    go_ret
    rw[HM.out]
    exact⟨⟨ptrTo fb,rfl,fb,rfl,by have :=HK.out.size;omega,by rw[←HP.out];exact HF.out⟩,HK.out.trans k8.any⟩
   |some s1,hM,HT,hzz=>
    have HZ:=hide (hzz s1 rfl)
    have hz1:=HZ.out.1.st
    have hz2:=HZ.out.1.cd
    clear hzz
    by_cases h33:op=33
    ·have b33:(op==33)=true:=by simpa using h33
     rw[b33]at q33
     simp only[if_pos h33]at hM
     simp only[Bool.not_true]at q33
     have HM:=hide hM
     clear hM h33 b33
     go_enter Tryz.func265,Tryz.ntmps265
     go_wp2_with fail
     go_region_held3 (fun w'=>w'.cell? ⟨E.bb,0,none⟩=some (ptrTo E.rb)∧w'.cell? ⟨E.bb,3,none⟩=some (.slice (some ⟨a0,o0,none⟩) E.c.locals.length lcap)) (go_keep) (first |(go_at_call 105;refine(HB.out w.drew ((Kp.refl no w).drew)).mono ?_;rintro e w1 ⟨⟨v,rfl,rfl,h1⟩,k1⟩;obtain⟨hc1,hf1⟩:=cells_of (k1.blk (show w.drew.heap[E.bb]? =_ from HBo.out) hnb);obtain⟨hm1,hmf1⟩:=cells_of (k1.blk (show w.drew.heap[E.mb]? =_ from HMo.out) hnm)))
     have HK1:=hide ((Kp.refl (one E.rb) w).drew.trans k1)
     have H1:=hide (H.out.read HK1.out h1)
     clear h1 k1
     obtain⟨a1,o1,had,hlc1⟩:=HCe.out w1 H1.out.env
     cases had
     have HT1:=hide (HT.out w1 H1.out)
     clear hc hf hm hmf hm1 hmf1 hlc0
     go_wp2_with fail
     refine HT1.out.mono ?_
     rintro r w2 ⟨⟨rfl,h2⟩,k2⟩
     have HE:=hide (emit_any h2 ⟨op,n,0,0,0⟩ (by omega))
     have HK2:=hide ((H.out.nroRb HK1.out).trans (H1.out.nroBb k2))
     clear h2
     go_wp2_with fail
     refine HE.out.mono ?_
     rintro e w3 ⟨rfl,h3,k3⟩
     have H3:=hide h3
     have HK3:=hide (HK2.out.trans k3)
     clear h3 k3
     go_wp2
     go_ret
     rw[HM.out]
     exact⟨⟨rfl,g,H3.out⟩,HK3.out⟩
    ·have b33:(op==33)=false:=by simpa using h33
     rw[b33]at q33
     simp only[if_neg h33]at hM
     simp only[Bool.not_false]at q33
     have HM:=hide hM
     clear hM h33 b33
     go_enter Tryz.func265,Tryz.ntmps265
     go_wp2_with fail
     go_region_held3 (fun w'=>w'.cell? ⟨E.bb,0,none⟩=some (ptrTo E.rb)∧w'.cell? ⟨E.bb,3,none⟩=some (.slice (some ⟨a0,o0,none⟩) E.c.locals.length lcap)) (go_keep) (first |(go_at_call 105;refine(HB.out w.drew ((Kp.refl no w).drew)).mono ?_;rintro e w1 ⟨⟨v,rfl,rfl,h1⟩,k1⟩;obtain⟨hc1,hf1⟩:=cells_of (k1.blk (show w.drew.heap[E.bb]? =_ from HBo.out) hnb);obtain⟨hm1,hmf1⟩:=cells_of (k1.blk (show w.drew.heap[E.mb]? =_ from HMo.out) hnm)))
     have HK1:=hide ((Kp.refl (one E.rb) w).drew.trans k1)
     have H1:=hide (H.out.read HK1.out h1)
     clear h1 k1
     obtain⟨a1,o1,had,hlc1⟩:=HCe.out w1 H1.out.env
     cases had
     have HT1:=hide (HT.out w1 H1.out)
     clear hc hf hm hmf hm1 hmf1 hlc0
     go_wp2_with fail
     refine HT1.out.mono ?_
     rintro r w2 ⟨⟨rfl,h2⟩,k2⟩
     have HE:=hide (emit_any h2 ⟨op,n,0,0,0⟩ (by omega))
     have HK2:=hide ((H.out.nroRb HK1.out).trans (H1.out.nroBb k2))
     clear h2
     go_wp2_with fail
     refine HE.out.mono ?_
     rintro e w3 ⟨rfl,h3,k3⟩
     have HP:=hide (put_any (h3.quiet ((Kp.refl no w3).alloc (.cells #[.int .u8 t.toNat] 5))) (one_byte w3 t) (by simp only;omega) (by simp))
     have HK3:=hide (HK2.out.trans k3)
     clear h3 k3
     go_wp2_with fail
     refine HP.out.mono ?_
     rintro e w4 ⟨rfl,h4,k4⟩
     have H4:=hide h4
     have HK4:=hide ((HK3.out.alloc _).trans k4)
     clear h4 k4
     go_wp2
     go_ret
     rw[HM.out]
     exact⟨⟨rfl,g,H4.out⟩,HK4.out⟩
end

end Go.Proofs.YtdeplgkhmebalaaGreatDoor

set_option linter.unusedSimpArgs false
set_option linter.unusedVariables false
set_option maxHeartbeats 3000000
set_option maxRecDepth 100000
namespace Go.Proofs.YtdeplgkhmebalaaGreatDoor
open Go.RowKit

section
variable{E:Env} {g N:Nat} {w:World} {s:Bd}

theorem BSt.roNe (h:BSt E g w s) {b:Nat} (hb:E.ro b):b≠E.bb:=by
 obtain⟨role,sv,cv,kc,bs,h⟩:=h
 intro e;have :=h.ro b hb;rw[e,h.r3]at this;cases this

theorem call_any (h:BSt E g w s) (z:Sz N s) (hN:N≤500000) (hne:s.blocks≠[]):Calls Tryz.prog 261 #[ptrTo E.bb] w fun r w'=>Done E w w' (callM E.c s) r∧Kp (nro E.ro) w w':=by
 have hM:callM E.c s=(match belowM E.c.D E.c.funcs.length s.i with
  | .error e=> .error e
  | .ok (n,j)=>
   match takeAllM {s with i:=j} (E.c.funcs.getD n ([],[])).1 with
   |none=>wrongM s
   |some s1=> .ok (putM (emitM s1 ⟨16,n,0,0,0⟩) (E.c.funcs.getD n ([],[])).2)):=rfl
 generalize callM E.c s=R at *
 have hst:=z.st
 have hcd:=z.cd
 have hen:=h.env
 have hnf:=hen.nf
 obtain⟨fad,fcap,hfv,hfc,-⟩:=hen.funcs
 have hbe:=fun W (k:Kp no w W)=>below_any (h.quiet k).rd E.c.funcs.length (by omega) (by omega)
 have hlt:=fun n j=>below_lt (D:=E.c.D) (lim:=(E.c.funcs.length:Int)) (i:=s.i) (n:=n) (j:=j)
 generalize belowM E.c.D E.c.funcs.length s.i=Q at *
 have H:=hide h
 obtain⟨sv,kc,hbo,-⟩:=h.bodyAt
 obtain⟨cv,hmo,hnb,hnm,hmb⟩:=h.modAt
 simp only[modObj]at hmo
 rw[hfv]at hmo
 obtain⟨hc,hf⟩:=cells_of hbo
 obtain⟨hm,hmf⟩:=cells_of hmo
 have HBo:=hide hbo
 have HMo:=hide hmo
 have HB:=hide hbe
 have HFV:=hide hfv
 have hres:=hen.res
 clear h hbe hbo hmo hfv hen
 match Q,hM,HB,hlt with
 | .error e,hM,HB,_=>
  have HM:=hide hM
  clear hM
  go_enter Tryz.func261,Tryz.ntmps261
  go_wp2_with fail
  go_region_held3 (fun w'=>w'.cell? ⟨E.bb,0,none⟩=some (ptrTo E.rb)∧w'.cell? ⟨E.bb,1,none⟩=some (ptrTo E.mb)∧w'.cell? ⟨E.mb,0,none⟩=some (.slice fad E.c.funcs.length fcap)) (go_keep) (first |(go_at_call 105;refine(HB.out w.drew ((Kp.refl no w).drew)).mono ?_;rintro e w1 ⟨⟨fv,j,rfl,⟨fb,rfl,hfb,hfo⟩,h1⟩,k1⟩;obtain⟨hc1,hf1⟩:=cells_of (k1.blk (show w.drew.heap[E.bb]? =_ from HBo.out) hnb);obtain⟨hm1,hmf1⟩:=cells_of (k1.blk (show w.drew.heap[E.mb]? =_ from HMo.out) hnm)))
  have HF:=hide hfo
  clear hfo h1
  go_wp2
  go_ret
  rw[HM.out]
  exact⟨⟨ptrTo fb,rfl,fb,rfl,hfb,HF.out⟩,H.out.nroRb ((Kp.refl (one E.rb) w).drew.trans k1)⟩
 | .ok (n,j),hM,HB,hlt=>
  have hn:=(hlt n j rfl).1
  have hrs:=hres n (by omega)
  clear hlt
  simp only at hM
  have hcell: ∀W,E.Ok W→ ∃a o pv rv,fad=some ⟨a,o,none⟩∧W.cell? ⟨a,o+n*4,none⟩=some pv∧W.cell? ⟨a,o+n*4+1,none⟩=some rv∧
    BytesAt W pv (E.c.funcs.getD n ([],[])).1∧RoV E.ro pv∧BytesAt W rv (E.c.funcs.getD n ([],[])).2∧RoV E.ro rv:=by
   intro W hW
   obtain⟨ad,cap,hv,_,hce⟩:=hW.funcs
   obtain⟨a,o,pv,rv,h1,-,h2,h3,h4,h5,h6,h7⟩:=hce n (by omega)
   rw[HFV.out]at hv
   simp only[Value.slice.injEq]at hv
   exact⟨a,o,pv,rv,hv.1.trans h1,h2,h3,h4,h5,h6,h7⟩
  have HCe:=hide hcell
  clear hcell hres
  have z0:Sz N {s with i:=j}:=z.read j s.pos s.closed
  generalize E.c.funcs.getD n ([],[])=ty at *
  obtain⟨ps,rs⟩:=ty
  simp only at hM HCe hrs
  have hta:=fun X W (h1:BSt (E.plus X) g W {s with i:=j}) tv (ht:BytesAt W tv ps) (hn: ∀b,tv.ownBlock=some b→b≠E.bb)=>takeAll_any h1 hne z.bl (by simp only;omega) ht (by omega) hn
  have hzz: ∀s2,takeAllM {s with i:=j} ps=some s2→Sz N s2∧Sunk {s with i:=j} s2:=fun s2 h2=>⟨takeAll_sz z0 h2,takeN_sunk _ h2⟩
  generalize takeAllM {s with i:=j} ps=Q2 at *
  have HT:=hide hta
  clear hta
  obtain⟨a0,o0,pv0,rv0,had,hp0,hr0,-⟩:=HCe.out w H.out.env
  subst had
  match Q2,hM,HT,hzz with
  |none,hM,HT,_=>
   have HM:=hide hM
   clear hM
   go_enter Tryz.func261,Tryz.ntmps261
   go_wp2_with fail
   go_region_held3 (fun w'=>w'.cell? ⟨E.bb,0,none⟩=some (ptrTo E.rb)∧w'.cell? ⟨E.bb,1,none⟩=some (ptrTo E.mb)∧w'.cell? ⟨E.mb,0,none⟩=some (.slice (some ⟨a0,o0,none⟩) E.c.funcs.length fcap)) (go_keep) (first |(go_at_call 105;refine(HB.out w.drew ((Kp.refl no w).drew)).mono ?_;rintro e w1 ⟨⟨v,rfl,rfl,h1⟩,k1⟩;obtain⟨hc1,hf1⟩:=cells_of (k1.blk (show w.drew.heap[E.bb]? =_ from HBo.out) hnb);obtain⟨hm1,hmf1⟩:=cells_of (k1.blk (show w.drew.heap[E.mb]? =_ from HMo.out) hnm)))
   have HK1:=hide ((Kp.refl (one E.rb) w).drew.trans k1)
   have H1:=hide (H.out.read HK1.out h1)
   clear h1 k1
   obtain⟨a1,o1,pv,rv,had,hp1,hr1,hbp,hrp,hbr,hrr⟩:=HCe.out w1 H1.out.env
   cases had
   obtain⟨adp,capp,rfl,-⟩:=hbp.shape
   obtain⟨adr,capr,rfl,-⟩:=hbr.shape
   have HBP:=hide hbp
   have HBR:=hide hbr
   have HRP:=hide hrp
   have HRR:=hide hrr
   clear hc hf hm hmf hp0 hr0 hbp hbr hrp hrr
   have HG:=hide (H1.out.guard ((Kp.refl no w1).alloc (.cells #[.slice adp ps.length capp,.slice adr rs.length capr] 138)) (one w1.heap.size) (fun b (hb:b=_)=>by subst hb;simp))
   have hnep: ∀b,(Value.slice adp ps.length capp).ownBlock=some b→b≠E.bb:=fun b hb=>H1.out.roNe (HRP.out b hb)
   have HT1:=hide (HT.out _ _ HG.out _ (HBP.out.kp ((Kp.refl no w1).alloc _) (fun _ _ h=>h)) hnep)
   clear hnep
   go_wp2_with fail
   refine HT1.out.mono ?_
   rintro r w3 ⟨⟨rfl,s2,h1,hs2⟩,k3⟩
   have hp:s2.pos=s.pos:=hs2.pos
   have HK:=hide (((H.out.nroRb HK1.out).alloc _).trans (HG.out.nroBb k3).unguard)
   clear hs2
   have HP:=hide hp
   have HW:=hide (wrong_any h1)
   clear h1 hp
   go_wp2_with fail
   refine HW.out.mono ?_
   rintro e w8 ⟨⟨fv,rfl,fb,rfl,hfb,hfo⟩,k8⟩
   have HF:=hide hfo
   clear hfo
   go_wp2
   go_ret
   rw[HM.out]
   exact⟨⟨ptrTo fb,rfl,fb,rfl,by have :=HK.out.size;omega,by rw[←HP.out];exact HF.out⟩,HK.out.trans k8.any⟩
  |some s1,hM,HT,hzz=>
   have HM:=hide hM
   have HZ:=hide (hzz s1 rfl)
   have hz1:=HZ.out.1.st
   have hz2:=HZ.out.1.cd
   clear hM hzz
   go_enter Tryz.func261,Tryz.ntmps261
   go_wp2_with fail
   go_region_held3 (fun w'=>w'.cell? ⟨E.bb,0,none⟩=some (ptrTo E.rb)∧w'.cell? ⟨E.bb,1,none⟩=some (ptrTo E.mb)∧w'.cell? ⟨E.mb,0,none⟩=some (.slice (some ⟨a0,o0,none⟩) E.c.funcs.length fcap)) (go_keep) (first |(go_at_call 105;refine(HB.out w.drew ((Kp.refl no w).drew)).mono ?_;rintro e w1 ⟨⟨v,rfl,rfl,h1⟩,k1⟩;obtain⟨hc1,hf1⟩:=cells_of (k1.blk (show w.drew.heap[E.bb]? =_ from HBo.out) hnb);obtain⟨hm1,hmf1⟩:=cells_of (k1.blk (show w.drew.heap[E.mb]? =_ from HMo.out) hnm)))
   have HK1:=hide ((Kp.refl (one E.rb) w).drew.trans k1)
   have H1:=hide (H.out.read HK1.out h1)
   clear h1 k1
   obtain⟨a1,o1,pv,rv,had,hp1,hr1,hbp,hrp,hbr,hrr⟩:=HCe.out w1 H1.out.env
   cases had
   obtain⟨adp,capp,rfl,-⟩:=hbp.shape
   obtain⟨adr,capr,rfl,-⟩:=hbr.shape
   have HBP:=hide hbp
   have HBR:=hide hbr
   have HRP:=hide hrp
   have HRR:=hide hrr
   clear hc hf hm hmf hp0 hr0 hbp hbr hrp hrr
   have HG:=hide (H1.out.guard ((Kp.refl no w1).alloc (.cells #[.slice adp ps.length capp,.slice adr rs.length capr] 138)) (one w1.heap.size) (fun b (hb:b=_)=>by subst hb;simp))
   have hnep: ∀b,(Value.slice adp ps.length capp).ownBlock=some b→b≠E.bb:=fun b hb=>H1.out.roNe (HRP.out b hb)
   have HT1:=hide (HT.out _ _ HG.out _ (HBP.out.kp ((Kp.refl no w1).alloc _) (fun _ _ h=>h)) hnep)
   clear hnep
   go_wp2_with fail
   refine HT1.out.mono ?_
   rintro r w3 ⟨⟨rfl,h3⟩,k3⟩
   have HK3:=hide (Kp.trans (Kp.alloc (Kp.refl (nro (E.plus (one w1.heap.size)).ro) w1) (.cells #[.slice adp ps.length capp,.slice adr rs.length capr] 138)) (HG.out.nroBb k3))
   have htb3:=(HG.out.nroBb k3).blk (heap_alloc_new w1 (.cells #[.slice adp ps.length capp,.slice adr rs.length capr] 138)) (fun hn=>hn (.inr rfl))
   have HE:=hide (emit_any h3 ⟨16,n,0,0,0⟩ (by omega))
   have HTB:=hide htb3
   clear h3 k3 htb3
   go_wp2_with fail
   refine HE.out.mono ?_
   rintro e w4 ⟨rfl,h4,k4⟩
   obtain⟨htc,htf⟩:=cells_of (k4.blk HTB.out (fun hn=>hn (.inr rfl)))
   have HK4:=hide (HK3.out.trans k4)
   have hbr4:=HBR.out.ro HRR.out (HK4.out.unguard)
   have HP:=hide (put_any h4 hbr4 (by simp only;omega) (by omega))
   clear h4 k4 hbr4
   go_wp2_with fail
   refine HP.out.mono ?_
   rintro e w5 ⟨rfl,h5,k5⟩
   have HK5:=hide (HK4.out.trans k5)
   have H5:=hide (h5.unguard (H1.out.env.kp HK5.out.unguard))
   clear h5 k5
   go_wp2
   go_ret
   rw[HM.out]
   exact⟨⟨rfl,g,H5.out⟩,(H.out.nroRb HK1.out).trans HK5.out.unguard⟩
end

end Go.Proofs.YtdeplgkhmebalaaGreatDoor

set_option linter.unusedSimpArgs false
set_option linter.unusedVariables false
set_option maxHeartbeats 2000000
set_option maxRecDepth 100000
namespace Go.Proofs.YtdeplgkhmebalaaGreatDoor
open Go.RowKit

def value32 (D:List UInt8) (i:Nat):Except (Int×Int) (Nat×Nat):=
 match S32M D i with
 | .error e=> .error e
 | .ok (n,j)=> .ok ((n%4294967296).toNat,j)
def value64 (D:List UInt8) (i:Nat):Except (Int×Int) (Nat×Nat):=
 match S64M D i with
 | .error e=> .error e
 | .ok (n,j)=> .ok ((n%18446744073709551616).toNat,j)

theorem u32_wrap (n:Int):IntKind.u32.wrap n=((n%4294967296).toNat:Int):=by
 have h:IntKind.u32.wrap n=n%4294967296:=by simp[IntKind.wrap,IntKind.signed,IntKind.bits]
 rw[h];omega
theorem u64_wrap (n:Int):IntKind.u64.wrap n=((n%18446744073709551616).toNat:Int):=by
 have h:IntKind.u64.wrap n=n%18446744073709551616:=by simp[IntKind.wrap,IntKind.signed,IntKind.bits]
 rw[h];omega

theorem readValue32 {w:World} {rb:Nat} {dv:Value} {D:List UInt8} {i:Nat} (h:RSt w rb dv D i):
  Calls Tryz.prog 140 #[ptrTo rb,.int .u8 127] w fun r w'=>Gives w w' rb dv D (fun(n:Nat) v=>v= .int .u64 n) (.int .u64 0) (value32 D i) r∧Kp (one rb) w w':=by
 have hM:value32 D i=(match S32M D i with | .error e=> .error e| .ok (n,j)=> .ok ((n%4294967296).toNat,j)):=rfl
 generalize value32 D i=R at *
 have hg:=S32_any h
 have hrg:=fun n j=>S32_range (D:=D) (i:=i) (n:=n) (j:=j)
 generalize S32M D i=Q at *
 have Hg:=hide hg
 clear hg h
 match Q,hM,Hg,hrg with
 | .error e,hM,Hg,_=>
  have HM:=hide hM
  clear hM
  go_enter Tryz.func140,Tryz.ntmps140
  go_wp2_with fail
  refine Hg.out.mono ?_
  rintro r w1 ⟨⟨fv,j,rfl,⟨fb,rfl,hfb,hfo⟩,h1⟩,k1⟩
  have H1:=hide h1
  have HF:=hide hfo
  clear h1 hfo
  go_wp2
  go_ret2
  rw[HM.out]
  exact⟨⟨ptrTo fb,j,rfl,⟨fb,rfl,hfb,HF.out⟩,H1.out⟩,k1⟩
 | .ok (n,j),hM,Hg,hrg=>
  have hn:=hrg n j rfl
  have e1:IntKind.u32.wrap n=((n%4294967296).toNat:Int):=u32_wrap n
  have hlt:(n%4294967296).toNat<4294967296:=by omega
  simp only at hM
  clear hrg
  generalize(n%4294967296).toNat=m at *
  have HM:=hide hM
  clear hM
  go_enter Tryz.func140,Tryz.ntmps140
  go_wp2_with fail
  refine Hg.out.mono ?_
  rintro r w1 ⟨⟨v,rfl,rfl,h1⟩,k1⟩
  have H1:=hide h1
  clear h1
  go_wp2
  go_ret2
  rw[HM.out]
  exact⟨⟨_,rfl,rfl,H1.out⟩,k1⟩

theorem readValue64 {w:World} {rb:Nat} {dv:Value} {D:List UInt8} {i:Nat} (h:RSt w rb dv D i):
  Calls Tryz.prog 140 #[ptrTo rb,.int .u8 126] w fun r w'=>Gives w w' rb dv D (fun(n:Nat) v=>v= .int .u64 n) (.int .u64 0) (value64 D i) r∧Kp (one rb) w w':=by
 have hM:value64 D i=(match S64M D i with | .error e=> .error e| .ok (n,j)=> .ok ((n%18446744073709551616).toNat,j)):=rfl
 generalize value64 D i=R at *
 have hg:=S64_any h
 have hrg:=fun n j=>S64_range (D:=D) (i:=i) (n:=n) (j:=j)
 generalize S64M D i=Q at *
 have Hg:=hide hg
 clear hg h
 match Q,hM,Hg,hrg with
 | .error e,hM,Hg,_=>
  have HM:=hide hM
  clear hM
  go_enter Tryz.func140,Tryz.ntmps140
  go_wp2_with fail
  refine Hg.out.mono ?_
  rintro r w1 ⟨⟨fv,j,rfl,⟨fb,rfl,hfb,hfo⟩,h1⟩,k1⟩
  have H1:=hide h1
  have HF:=hide hfo
  clear h1 hfo
  go_wp2
  go_ret2
  rw[HM.out]
  exact⟨⟨ptrTo fb,j,rfl,⟨fb,rfl,hfb,HF.out⟩,H1.out⟩,k1⟩
 | .ok (n,j),hM,Hg,hrg=>
  have hn:=hrg n j rfl
  have e1:IntKind.u64.wrap n=((n%18446744073709551616).toNat:Int):=u64_wrap n
  have hlt:(n%18446744073709551616).toNat<18446744073709551616:=by omega
  simp only at hM
  clear hrg
  generalize(n%18446744073709551616).toNat=m at *
  have HM:=hide hM
  clear hM
  go_enter Tryz.func140,Tryz.ntmps140
  go_wp2_with fail
  refine Hg.out.mono ?_
  rintro r w1 ⟨⟨v,rfl,rfl,h1⟩,k1⟩
  have H1:=hide h1
  clear h1
  go_wp2
  go_ret2
  rw[HM.out]
  exact⟨⟨_,rfl,rfl,H1.out⟩,k1⟩

theorem behind_1 (D:List UInt8) (i:Nat):behindM D 1 i=UM D i:=rfl
theorem behind_2 (D:List UInt8) (i:Nat):behindM D 2 i=value32 D i:=rfl
theorem behind_3 (D:List UInt8) (i:Nat):behindM D 3 i=value64 D i:=rfl
theorem behind_0 (D:List UInt8) (i:Nat):behindM D 0 i= .ok (0,i):=rfl

section
variable{E:Env} {g N:Nat} {w:World} {s:Bd}

def GotNum (E:Env) (g:Nat) (w w':World) (s:Bd) (m:Except (Int×Int) (Nat×Nat)) (r:Ending):Prop:=
 match m with
 | .ok (n,j)=>r= .returned (.tuple #[.int .u64 n,.pointer none])∧BSt E g w' {s with i:=j}
 | .error e=> ∃zv fv,r= .returned (.tuple #[zv,fv])∧FaultAt w w' fv e

theorem behind_any (h:BSt E g w s) (b:Nat) (hb:b=0∨b=1∨b=2∨b=3):
  Calls Tryz.prog 266 #[ptrTo E.bb,.int .i64 b] w fun r w'=>GotNum E g w w' s (behindM E.c.D b s.i) r∧Kp (one E.rb) w w':=by
 obtain⟨sv,kc,hbo,-⟩:=h.bodyAt
 obtain⟨hc,hf⟩:=cells_of hbo
 have H:=hide h
 have hrd:=h.rd
 clear h hbo
 rcases hb with rfl |rfl |rfl |rfl
 ·rw[behind_0]
  clear hrd
  go_enter Tryz.func266,Tryz.ntmps266
  go_wp2
  go_ret2
  exact⟨⟨rfl,H.out⟩,Kp.refl _ _⟩
 ·rw[behind_1]
  have hg:=U_any hrd
  have hle:=fun n j=>UM_le (D:=E.c.D) (i:=s.i) (n:=n) (j:=j)
  generalize UM E.c.D s.i=Q at *
  have Hg:=hide hg
  clear hg hrd
  match Q,Hg,hle with
  | .error e,Hg,_=>
   go_enter Tryz.func266,Tryz.ntmps266
   go_wp2_with fail
   refine Hg.out.mono ?_
   rintro r w1 ⟨⟨fv,j,rfl,⟨fb,rfl,hfb,hfo⟩,h1⟩,k1⟩
   have HF:=hide hfo
   clear h1 hfo
   go_wp2
   go_ret2
   exact⟨⟨_,ptrTo fb,rfl,fb,rfl,hfb,HF.out⟩,k1⟩
  | .ok (n,j),Hg,hle=>
   have hn:=(hle n j rfl).1
   clear hle
   go_enter Tryz.func266,Tryz.ntmps266
   go_wp2_with fail
   refine Hg.out.mono ?_
   rintro r w1 ⟨⟨v,rfl,rfl,h1⟩,k1⟩
   have H1:=hide (H.out.read k1 h1)
   clear h1
   go_wp2
   go_ret2
   exact⟨⟨rfl,H1.out⟩,k1⟩
 ·rw[behind_2]
  have hg:=readValue32 hrd
  generalize value32 E.c.D s.i=Q at *
  have Hg:=hide hg
  clear hg hrd
  match Q,Hg with
  | .error e,Hg=>
   go_enter Tryz.func266,Tryz.ntmps266
   go_wp2_with fail
   refine Hg.out.mono ?_
   rintro r w1 ⟨⟨fv,j,rfl,⟨fb,rfl,hfb,hfo⟩,h1⟩,k1⟩
   have HF:=hide hfo
   clear h1 hfo
   go_wp2
   go_ret2
   exact⟨⟨_,ptrTo fb,rfl,fb,rfl,hfb,HF.out⟩,k1⟩
  | .ok (n,j),Hg=>
   go_enter Tryz.func266,Tryz.ntmps266
   go_wp2_with fail
   refine Hg.out.mono ?_
   rintro r w1 ⟨⟨v,rfl,rfl,h1⟩,k1⟩
   have H1:=hide (H.out.read k1 h1)
   clear h1
   go_wp2
   go_ret2
   exact⟨⟨rfl,H1.out⟩,k1⟩
 ·rw[behind_3]
  have hg:=readValue64 hrd
  generalize value64 E.c.D s.i=Q at *
  have Hg:=hide hg
  clear hg hrd
  match Q,Hg with
  | .error e,Hg=>
   go_enter Tryz.func266,Tryz.ntmps266
   go_wp2_with fail
   refine Hg.out.mono ?_
   rintro r w1 ⟨⟨fv,j,rfl,⟨fb,rfl,hfb,hfo⟩,h1⟩,k1⟩
   have HF:=hide hfo
   clear h1 hfo
   go_wp2
   go_ret2
   exact⟨⟨_,ptrTo fb,rfl,fb,rfl,hfb,HF.out⟩,k1⟩
  | .ok (n,j),Hg=>
   go_enter Tryz.func266,Tryz.ntmps266
   go_wp2_with fail
   refine Hg.out.mono ?_
   rintro r w1 ⟨⟨v,rfl,rfl,h1⟩,k1⟩
   have H1:=hide (H.out.read k1 h1)
   clear h1
   go_wp2
   go_ret2
   exact⟨⟨rfl,H1.out⟩,k1⟩
end

end Go.Proofs.YtdeplgkhmebalaaGreatDoor

set_option linter.unusedSimpArgs false
set_option linter.unusedVariables false
set_option maxHeartbeats 2000000
set_option maxRecDepth 100000
namespace Go.Proofs.YtdeplgkhmebalaaGreatDoor
open Go.RowKit

def rowCells (r:RowT):List Value:=[.int .u8 r.fr.toNat,.int .u8 r.upto.toNat,.int .i64 r.behind,.string ⟨r.takes.toArray⟩,.string ⟨r.gives.toArray⟩]
theorem rowLen (r:RowT):(rowCells r).length=5:=rfl
def noRow:RowT:=⟨0,0,0,[],[]⟩

def RowsAt (w:World) (ro:Nat→Prop):Prop:= ∃a o cap,w.cell? ⟨1,0,none⟩=some (.slice (some ⟨a,o,none⟩) 28 cap)∧28≤cap∧ro 1∧ro a∧ ∀k,k<28→ ∀j,j<5→w.cell? ⟨a,o+k*5+j,none⟩=(rowCells (rowsM.getD k noRow))[j]?
theorem RowsAt.kp {w w':World} {ro:Nat→Prop} (h:RowsAt w ro) (k:Kp (nro ro) w w'):RowsAt w' ro:=by
 obtain⟨a,o,cap,h1,h2,h3,h4,h5⟩:=h
 refine⟨a,o,cap,k.cell h1 (fun hn=>hn h3),h2,h3,h4,fun j hj i hi=> ?_⟩
 have h6:=h5 j hj i hi
 have h7: ∃v,(rowCells (rowsM.getD j noRow))[i]? =some v:=by rw[List.getElem?_eq_getElem (by rw[rowLen];exact hi)];exact⟨_,rfl⟩
 obtain⟨v,hv⟩:=h7
 rw[hv]at h6⊢
 exact k.cell h6 (fun hn=>hn h4)

theorem find_at (op:UInt8):findM op=(rowsM.drop 0).find? fun r=>decide (r.fr≤op)&&decide (op≤r.upto):=rfl
theorem u8_le (x y:UInt8):decide ((x.toNat:Int)≤(y.toNat:Int))=decide (x≤y):=by
 rw[Bool.eq_iff_iff];simp[UInt8.le_iff_toNat_le]

def rowAgg (r:RowT):Value:= .agg (rowCells r).toArray
def GotRow (m:Option RowT) (r:Ending):Prop:=
 match m with
 |some x=>r= .returned (.tuple #[rowAgg x,.bool true])
 |none=>r= .returned (.tuple #[rowAgg noRow,.bool false])

def put5 (w:World) (b:Nat) (v0 v1 v2 v3 v4:Value):World:=((((w.setCell ⟨b,0,none⟩ v0).setCell ⟨b,1,none⟩ v1).setCell ⟨b,2,none⟩ v2).setCell ⟨b,3,none⟩ v3).setCell ⟨b,4,none⟩ v4
theorem put5_blk {w:World} {b:Nat} {a0 a1 a2 a3 a4:Value} {t:TypeId} (h:w.heap[b]? =some (.cells #[a0,a1,a2,a3,a4] t)) (v0 v1 v2 v3 v4:Value):(put5 w b v0 v1 v2 v3 v4).heap[b]? =some (.cells #[v0,v1,v2,v3,v4] t):=
 heap_setCell (heap_setCell (heap_setCell (heap_setCell (heap_setCell h v0) v1) v2) v3) v4
theorem put5_kp {w w':World} {b:Nat} (hb:w.heap.size≤b) (k:Kp no w w') (v0 v1 v2 v3 v4:Value):Kp no w (put5 w' b v0 v1 v2 v3 v4):=
 ((((k.setNew hb _ _).setNew hb _ _).setNew hb _ _).setNew hb _ _).setNew hb _ _

theorem find_any {w:World} {ro:Nat→Prop} (h:RowsAt w ro) (op:UInt8):
  Calls Tryz.prog 210 #[.int .u8 op.toNat] w fun r w'=>GotRow (findM op) r∧Kp no w w':=by
 have hM:=find_at op
 generalize findM op=R at *
 obtain⟨a,o,cap,h1,h2,-,-,h5⟩:=h
 have hl1:=World.block_lt_of_cell? w _ h1
 simp only at hl1
 have HR:=hide h5
 have HM:=hide hM
 clear h5 hM
 go_enter Tryz.func210,Tryz.ntmps210
 go_wp2
 go_loopw [8] (fun kv wr=> ∃k:Nat,k≤28∧kv= .int .i64 k∧Kp no (w.alloc (.cells #[.int .u8 0,.int .u8 0,.int .i64 0,.string ⟨#[]⟩,.string ⟨#[]⟩] 329)) wr∧(rowsM.drop 0).find? (fun r=>decide (r.fr≤op)&&decide (op≤r.upto))=(rowsM.drop k).find? (fun r=>decide (r.fr≤op)&&decide (op≤r.upto))) (fun kv _=>28 - (intOf kv).toNat)
 case atStart=>exact⟨0,by omega,rfl,Kp.refl _ _,rfl⟩
 case round=>
  obtain⟨k,hk,rfl,hkp,hfi⟩:=hrel
  have HK:=hide hkp
  have HF:=hide hfi
  clear hkp hfi
  by_cases hk28:k<28
  ·have hce: ∀j v,j<5→(rowCells (rowsM.getD k noRow))[j]? =some v→wr.cell? ⟨a,o+k*5+j,none⟩=some v:=fun j v hj hv=>HK.out.allCells (((Kp.refl no w).alloc _).allCells ((HR.out k hk28 j hj).trans hv))
   have hdr:rowsM.drop k=rowsM.getD k noRow::rowsM.drop (k+1):=by
    have hlen:rowsM.length=28:=rfl
    rw[List.drop_eq_getElem_cons (by omega)];simp[List.getD,List.getElem?_eq_getElem (show k<rowsM.length by omega)]
   have hF:=HF.out
   rw[hdr,List.find?_cons]at hF
   generalize rowsM.getD k noRow=rw at *
   obtain⟨fr,up,bh,tk,gv⟩:=rw
   have c0:=hce 0 _ (by decide) rfl
   rw[Nat.add_zero]at c0
   have c1:=hce 1 _ (by decide) rfl
   have c2:=hce 2 _ (by decide) rfl
   have c3:=hce 3 _ (by decide) rfl
   have c4:=hce 4 _ (by decide) rfl
   clear hce hdr HF
   have hgo:w.heap.size<wr.heap.size:=by have :=HK.out.size;simp at this;omega
   have hal:a<wr.heap.size:=World.block_lt_of_cell? wr _ c0
   have hblk:=HK.out.blk (heap_alloc_new w (.cells #[.int .u8 0,.int .u8 0,.int .i64 0,.string ⟨#[]⟩,.string ⟨#[]⟩] 329)) (fun h=>h)
   have HBk:=hide hblk
   clear hblk
   obtain⟨hrc,hrf⟩:=cells_of (HK.out.blk (heap_alloc_new w (.cells #[.int .u8 0,.int .u8 0,.int .i64 0,.string ⟨#[]⟩,.string ⟨#[]⟩] 329)) (fun h=>h))
   simp only at hF
   have hsz:=size_setCell
   by_cases h1:fr≤op
   ·have h1':(fr.toNat:Int)≤(op.toNat:Int):=by have :=UInt8.le_iff_toNat_le.1 h1;omega
    by_cases h2:op≤up
    ·have h2':(op.toNat:Int)≤(up.toNat:Int):=by have :=UInt8.le_iff_toNat_le.1 h2;omega
     simp only[h1,h2,decide_true,Bool.and_self]at hF
     have HF:=hide hF
     clear hF h1 h2
     go_wp2
     have hfin:=(cells_of (heap_alloc_old (o:= .cells #[.int .u8 fr.toNat,.int .u8 up.toNat,.int .i64 bh,.string ⟨tk.toArray⟩,.string ⟨gv.toArray⟩] 329) (put5_blk HBk.out (.int .u8 fr.toNat) (.int .u8 up.toNat) (.int .i64 bh) (.string ⟨tk.toArray⟩) (.string ⟨gv.toArray⟩)))).1
     simp only[put5]at hfin
     refine bodyPost_ret (v:= .tuple #[rowAgg ⟨fr,up,bh,tk,gv⟩,.bool true]) (by simp[results,Tryz.results210,go_sem,hfin,rowAgg,rowCells]) rfl ?_
     rw[HM.out,HF.out]
     exact⟨rfl,(put5_kp (w:=w) (Nat.le_refl _) (Kp.trans ((Kp.refl no w).alloc _) HK.out) _ _ _ _ _).alloc _⟩
    ·have h2': ¬((op.toNat:Int)≤(up.toNat:Int)):=by intro e;exact h2 (UInt8.le_iff_toNat_le.2 (by omega))
     simp only[h1,h2,decide_true,decide_false,Bool.and_false]at hF
     have HF:=hide hF
     clear hF h1 h2
     go_wp2
     go_roundw
     case rel=>exact⟨k+1,by omega,by go_num,HK.out.alloc _,HF.out⟩
     case measure=>simp[intOf];omega
   ·have h1': ¬((fr.toNat:Int)≤(op.toNat:Int)):=by intro e;exact h1 (UInt8.le_iff_toNat_le.2 (by omega))
    simp only[h1,decide_false,Bool.false_and]at hF
    have HF:=hide hF
    clear hF h1
    go_wp2
    go_roundw
    case rel=>exact⟨k+1,by omega,by go_num,HK.out.alloc _,HF.out⟩
    case measure=>simp[intOf];omega
  ·obtain rfl :k=28:=by omega
   have hF:=HF.out
   rw[show(rowsM.drop 28).find? (fun r=>decide (r.fr≤op)&&decide (op≤r.upto))=none from rfl]at hF
   have HF1:=hide hF
   have hblk:=HK.out.blk (heap_alloc_new w (.cells #[.int .u8 0,.int .u8 0,.int .i64 0,.string ⟨#[]⟩,.string ⟨#[]⟩] 329)) (fun h=>h)
   have HBk:=hide hblk
   clear hblk
   obtain⟨hrc,hrf⟩:=cells_of (HK.out.blk (heap_alloc_new w (.cells #[.int .u8 0,.int .u8 0,.int .i64 0,.string ⟨#[]⟩,.string ⟨#[]⟩] 329)) (fun h=>h))
   clear hF HF
   go_wp2
   have hfin:=(cells_of (put5_blk HBk.out (.int .u8 0) (.int .u8 0) (.int .i64 0) (.string ⟨#[]⟩) (.string ⟨#[]⟩))).1
   simp only[put5]at hfin
   refine bodyPost_ret (v:= .tuple #[rowAgg noRow,.bool false]) (by simp[results,Tryz.results210,go_sem,hfin,rowAgg,rowCells,noRow]) rfl ?_
   rw[HM.out,HF1.out]
   exact⟨rfl,put5_kp (w:=w) (Nat.le_refl _) (Kp.trans ((Kp.refl no w).alloc _) HK.out) _ _ _ _ _⟩

end Go.Proofs.YtdeplgkhmebalaaGreatDoor

set_option linter.unusedSimpArgs false
set_option linter.unusedVariables false
namespace Go.Proofs.YtdeplgkhmebalaaGreatDoor
open Go.RowKit

def RowsOk (w:World):Prop:=RowsAt w (fun b=>b<w.heap.size)
theorem RowsOk.kp {w w':World} (h:RowsOk w) (k:Kp no w w'):RowsOk w':=by
 obtain⟨a,o,cap,h1,h2,h3,h4,h5⟩:=RowsAt.kp (ro:=fun b=>b<w.heap.size) h (k.mono (S':=nro fun b=>b<w.heap.size) (fun _ _ h=>h.elim))
 exact⟨a,o,cap,h1,h2,Nat.lt_of_lt_of_le h3 k.size,Nat.lt_of_lt_of_le h4 k.size,h5⟩
theorem RowsOk.kp2 {w0 w:World} {S:Nat→Prop} (h:RowsOk w0) (k:Kp S w0 w) (hs: ∀b,b<w0.heap.size→ ¬S b):RowsOk w:=by
 obtain⟨a,o,cap,h1,h2,h3,h4,h5⟩:=h
 have k':Kp no w0 w:=k.mono (fun b hb hS=>hs b hb hS)
 exact RowsOk.kp ⟨a,o,cap,h1,h2,h3,h4,h5⟩ k'

end Go.Proofs.YtdeplgkhmebalaaGreatDoor

set_option linter.unusedSimpArgs false
set_option linter.unusedVariables false
namespace Go.Proofs.YtdeplgkhmebalaaGreatDoor
open Go.RowKit

theorem last_split (l:List UInt8) (h:0<l.length):l=l.take (l.length -1)++[l.getD (l.length -1) 0]:=by
 have e:l.getD (l.length -1) 0=l[l.length -1]'(by omega):=by simp[List.getD_eq_getElem?_getD,List.getElem?_eq_getElem (show l.length -1<l.length by omega)]
 rw[e,List.take_append_getElem,List.take_of_length_le (by omega)]
theorem takeAny_spec {s s':Bd} {u:UInt8} (h:takeAnyM s=some (u,s')):s.stack=s'.stack++[u]∧s.top.height≤s'.stack.length∧s'={s with stack:=s'.stack}:=by
 unfold takeAnyM at h
 split at h
 ·cases h
 ·rename_i hc
  cases h
  exact⟨last_split _ (by omega),by simp;omega,rfl⟩
theorem take_spec {s s':Bd} {u:UInt8} (h:takeM s u=some s'):s.stack=s'.stack++[u]∧s.top.height≤s'.stack.length∧s'={s with stack:=s'.stack}:=by
 unfold takeM at h
 split at h
 ·cases h
 ·rename_i v s1 h1
  split at h
  ·rename_i e;cases h;rw[←e];exact takeAny_spec h1
  ·cases h
theorem takeN_spec {ts:List UInt8} (k:Nat): ∀{s s':Bd},s.top.height≤s.stack.length→k≤ts.length→takeN ts k s=some s'→s.stack=s'.stack++ts.take k∧s.top.height≤s'.stack.length∧s'={s with stack:=s'.stack}:=by
 induction k with
 |zero=>intro s s' h0 _ h;cases h;exact⟨by simp,h0,rfl⟩
 |succ k ih=>
  intro s s' h0 hk h
  rw[takeN]at h
  split at h
  ·cases h
  ·rename_i s1 h1
   obtain⟨a,b,c⟩:=take_spec h1
   have htop:s1.top=s.top:=by rw[c];rfl
   obtain⟨a',b',c'⟩:=ih (by rw[htop];exact b) (by omega) h
   rw[htop]at b'
   refine⟨?_,b',?_⟩
   ·rw[a,a',List.append_assoc]
    congr 1
    rw[List.take_add_one,List.getElem?_eq_getElem (by omega)]
    simp[List.getD_eq_getElem?_getD,List.getElem?_eq_getElem (show k<ts.length by omega)]
   ·rw[c',c]
theorem takeAll_spec {s s':Bd} {ts:List UInt8} (h0:s.top.height≤s.stack.length) (h:takeAllM s ts=some s'):s.stack=s'.stack++ts∧s.top.height≤s'.stack.length∧s'={s with stack:=s'.stack}:=by
 have :=takeN_spec ts.length h0 (Nat.le_refl _) h
 rwa[List.take_length]at this
theorem carries_spec {s s':Bd} {k:Nat} (h0:s.top.height≤s.stack.length) (h:carriesM s k=some s'):s'=s∧ ∃l,s.stack=l++valueM (s.bk k)∧s.top.height≤l.length:=by
 unfold carriesM at h
 rw[Option.map_eq_some_iff]at h
 obtain⟨s1,h1,rfl⟩:=h
 obtain⟨a,b,c⟩:=takeAll_spec h0 h1
 refine⟨?_,s1.stack,a,b⟩
 unfold putM
 rw[←a,c]
end Go.Proofs.YtdeplgkhmebalaaGreatDoor
