/- The program's look at a body: globals. -/
import Derived.Test.YtdeplgkhmebalaaGreatDoorP19

set_option linter.unusedSimpArgs false
set_option linter.unusedVariables false
set_option maxHeartbeats 3000000
set_option maxRecDepth 100000
namespace Go.Proofs.YtdeplgkhmebalaaGreatDoor
open Go.RowKit

section
variable{E:Env} {g N:Nat} {w:World} {s:Bd}

theorem global_any (h:BSt E g w s) (z:Sz N s) (hN:N≤500000) (hne:s.blocks≠[]) (op:UInt8) (hop:op=35∨op=36):Calls Tryz.prog 264 #[ptrTo E.bb,.int .u8 op.toNat] w fun r w'=>Done E w w' (globalM E.c op s) r∧Kp (nro E.ro) w w':=by
 have hM:globalM E.c op s=(match belowM E.c.D E.c.gl.length s.i with
  | .error e=> .error e
  | .ok (n,j)=>
   if op=36 then
    if (E.c.gl.getD n (0,false)).2 then
     match takeM {s with i:=j} (E.c.gl.getD n (0,false)).1 with
     |none=>wrongM s
     |some s1=> .ok (emitM s1 ⟨op,n,0,0,0⟩)
    else wrongM s
   else .ok (putM (emitM {s with i:=j} ⟨op,n,0,0,0⟩) [(E.c.gl.getD n (0,false)).1])):=rfl
 generalize globalM E.c op s=R at *
 have hst:=z.st
 have hcd:=z.cd
 have hen:=h.env
 have hng:=hen.ng
 obtain⟨gad,gcap,hgv,hgc,-⟩:=hen.gl
 have hbe:=fun W (k:Kp no w W)=>below_any (h.quiet k).rd E.c.gl.length (by omega) (by omega)
 have hlt:=fun n j=>below_lt (D:=E.c.D) (lim:=(E.c.gl.length:Int)) (i:=s.i) (n:=n) (j:=j)
 generalize belowM E.c.D E.c.gl.length s.i=Q at *
 have H:=hide h
 obtain⟨sv,kc,hbo,-⟩:=h.bodyAt
 obtain⟨cv,hmo,hnb,hnm,hmb⟩:=h.modAt
 simp only[bodyObj]at hbo
 rw[hgv]at hbo
 obtain⟨hc,hf⟩:=cells_of hbo
 obtain⟨hm,hmf⟩:=cells_of hmo
 have HBo:=hide hbo
 have HMo:=hide hmo
 have HB:=hide hbe
 have HGV:=hide hgv
 have q35:((op.toNat:Int)==35)=(op==35):=u8_eq op 35
 have q36:((op.toNat:Int)==36)=(op==36):=u8_eq op 36
 clear h hbe hbo hmo hgv hen
 match Q,hM,HB,hlt with
 | .error e,hM,HB,_=>
  clear hop q35 q36
  have HM:=hide hM
  clear hM
  go_enter Tryz.func264,Tryz.ntmps264
  go_wp2_with fail
  go_region_held3 (fun w'=>w'.cell? ⟨E.bb,0,none⟩=some (ptrTo E.rb)∧w'.cell? ⟨E.bb,2,none⟩=some (.slice gad E.c.gl.length gcap)) (go_keep) (first |(go_at_call 105;refine(HB.out w.drew ((Kp.refl no w).drew)).mono ?_;rintro e w1 ⟨⟨fv,j,rfl,⟨fb,rfl,hfb,hfo⟩,h1⟩,k1⟩;obtain⟨hc1,hf1⟩:=cells_of (k1.blk (show w.drew.heap[E.bb]? =_ from HBo.out) hnb);obtain⟨hm1,hmf1⟩:=cells_of (k1.blk (show w.drew.heap[E.mb]? =_ from HMo.out) hnm)))
  have HF:=hide hfo
  clear hfo h1
  go_wp2
  go_ret
  rw[HM.out]
  exact⟨⟨ptrTo fb,rfl,fb,rfl,hfb,HF.out⟩,H.out.nroRb ((Kp.refl (one E.rb) w).drew.trans k1)⟩
 | .ok (n,j),hM,HB,hlt=>
  have hn:=(hlt n j rfl).1
  clear hlt
  simp only at hM
  have hcell: ∀W,E.Ok W→ ∃a o,gad=some ⟨a,o,none⟩∧W.cell? ⟨a,o+n*2,none⟩=some (.int .u8 (E.c.gl.getD n (0,false)).1.toNat)∧W.cell? ⟨a,o+n*2+1,none⟩=some (.bool (E.c.gl.getD n (0,false)).2):=by
   intro W hW
   obtain⟨ad,cap,hv,_,hce⟩:=hW.gl
   obtain⟨a,o,h1,-,h2,h3⟩:=hce n (by omega)
   rw[HGV.out]at hv
   simp only[Value.slice.injEq]at hv
   exact⟨a,o,hv.1.trans h1,h2,h3⟩
  have HCe:=hide hcell
  clear hcell
  have z0:Sz N {s with i:=j}:=z.read j s.pos s.closed
  generalize E.c.gl.getD n (0,false)=gg at *
  obtain⟨t,st⟩:=gg
  simp only at hM HCe
  obtain⟨a0,o0,had,hp0,hr0⟩:=HCe.out w H.out.env
  subst had
  rcases hop with hop|hop
  ·have b35:(op==35)=true:=by rw[hop];rfl
   have b36:(op==36)=false:=by rw[hop];rfl
   have e36:op≠36:=by rw[hop];decide
   rw[if_neg e36]at hM
   rw[b35]at q35
   rw[b36]at q36
   have HM:=hide hM
   clear hM hop b35 b36 e36
   go_enter Tryz.func264,Tryz.ntmps264
   go_wp2_with fail
   go_region_held3 (fun w'=>w'.cell? ⟨E.bb,0,none⟩=some (ptrTo E.rb)∧w'.cell? ⟨E.bb,2,none⟩=some (.slice (some ⟨a0,o0,none⟩) E.c.gl.length gcap)) (go_keep) (first |(go_at_call 105;refine(HB.out w.drew ((Kp.refl no w).drew)).mono ?_;rintro e w1 ⟨⟨v,rfl,rfl,h1⟩,k1⟩;obtain⟨hc1,hf1⟩:=cells_of (k1.blk (show w.drew.heap[E.bb]? =_ from HBo.out) hnb);obtain⟨hm1,hmf1⟩:=cells_of (k1.blk (show w.drew.heap[E.mb]? =_ from HMo.out) hnm)))
   have HK1:=hide ((Kp.refl (one E.rb) w).drew.trans k1)
   have H1:=hide (H.out.read HK1.out h1)
   clear h1 k1
   obtain⟨a1,o1,had,hp1,hr1⟩:=HCe.out w1 H1.out.env
   cases had
   have HG:=hide (H1.out.guard ((Kp.refl no w1).alloc (.cells #[.int .u8 t.toNat,.bool st] 256)) (one w1.heap.size) (fun b (hb:b=_)=>by subst hb;simp))
   have HE:=hide (emit_any HG.out ⟨op,n,0,0,0⟩ (by simp only;omega))
   clear hc hf hm hmf hp0 hr0
   go_wp2_with fail
   refine HE.out.mono ?_
   rintro e w4 ⟨rfl,h4,k4⟩
   obtain⟨htc,htf⟩:=cells_of (k4.blk (heap_alloc_new w1 (.cells #[.int .u8 t.toNat,.bool st] 256)) (fun hn=>hn (.inr rfl)))
   have HP:=hide (put_any (h4.quiet ((Kp.refl no w4).alloc (.cells #[.int .u8 t.toNat] 5))) (one_byte w4 t) (by simp only;omega) (by simp))
   have HK4:=hide (Kp.trans (Kp.alloc (Kp.refl (nro (E.plus (one w1.heap.size)).ro) w1) (.cells #[.int .u8 t.toNat,.bool st] 256)) k4)
   clear h4 k4
   go_wp2_with fail
   refine HP.out.mono ?_
   rintro e w5 ⟨rfl,h5,k5⟩
   have HK5:=hide ((HK4.out.alloc _).trans k5)
   have H5:=hide (h5.unguard (H1.out.env.kp HK5.out.unguard))
   clear h5 k5
   go_wp2
   go_ret
   rw[HM.out]
   exact⟨⟨rfl,g,H5.out⟩,(H.out.nroRb HK1.out).trans HK5.out.unguard⟩
  ·have b35:(op==35)=false:=by rw[hop];rfl
   have b36:(op==36)=true:=by rw[hop];rfl
   rw[if_pos hop]at hM
   rw[b35]at q35
   rw[b36]at q36
   clear hop b35 b36
   cases st
   ·have hM2:R=wrongM s:=hM
    have HM:=hide hM2
    clear hM hM2
    go_enter Tryz.func264,Tryz.ntmps264
    go_wp2_with fail
    go_region_held3 (fun w'=>w'.cell? ⟨E.bb,0,none⟩=some (ptrTo E.rb)∧w'.cell? ⟨E.bb,2,none⟩=some (.slice (some ⟨a0,o0,none⟩) E.c.gl.length gcap)) (go_keep) (first |(go_at_call 105;refine(HB.out w.drew ((Kp.refl no w).drew)).mono ?_;rintro e w1 ⟨⟨v,rfl,rfl,h1⟩,k1⟩;obtain⟨hc1,hf1⟩:=cells_of (k1.blk (show w.drew.heap[E.bb]? =_ from HBo.out) hnb);obtain⟨hm1,hmf1⟩:=cells_of (k1.blk (show w.drew.heap[E.mb]? =_ from HMo.out) hnm)))
    have HK1:=hide ((Kp.refl (one E.rb) w).drew.trans k1)
    have H1:=hide (H.out.read HK1.out h1)
    clear h1 k1
    obtain⟨a1,o1,had,hp1,hr1⟩:=HCe.out w1 H1.out.env
    cases had
    have HW:=hide (wrong_any (H1.out.quiet ((Kp.refl no w1).alloc (.cells #[.int .u8 t.toNat,.bool false] 256))))
    have HK:=hide ((H.out.nroRb HK1.out).alloc (.cells #[.int .u8 t.toNat,.bool false] 256))
    clear hc hf hm hmf hp0 hr0
    go_wp2_with fail
    refine HW.out.mono ?_
    rintro e w8 ⟨⟨fv,rfl,fb,rfl,hfb,hfo⟩,k8⟩
    have HF:=hide hfo
    clear hfo
    go_wp2
    go_ret
    rw[HM.out]
    exact⟨⟨ptrTo fb,rfl,fb,rfl,by have :=HK.out.size;omega,HF.out⟩,HK.out.trans k8.any⟩
   ·have hM2:R=(match takeM {s with i:=j} t with |none=>wrongM s|some s1=> .ok (emitM s1 ⟨op,n,0,0,0⟩)):=hM
    clear hM
    have hta:=fun W (h1:BSt E g W {s with i:=j})=>take_any' h1 hne z.bl (by simp only;omega) t
    have hzz: ∀s2,takeM {s with i:=j} t=some s2→Sz N s2∧Sunk {s with i:=j} s2:=fun s2 h2=>⟨take_sz z0 h2,take_sunk h2⟩
    generalize takeM {s with i:=j} t=Q2 at *
    have HT:=hide hta
    clear hta
    match Q2,hM2,HT,hzz with
    |none,hM2,HT,_=>
     have HM:=hide hM2
     clear hM2
     go_enter Tryz.func264,Tryz.ntmps264
     go_wp2_with fail
     go_region_held3 (fun w'=>w'.cell? ⟨E.bb,0,none⟩=some (ptrTo E.rb)∧w'.cell? ⟨E.bb,2,none⟩=some (.slice (some ⟨a0,o0,none⟩) E.c.gl.length gcap)) (go_keep) (first |(go_at_call 105;refine(HB.out w.drew ((Kp.refl no w).drew)).mono ?_;rintro e w1 ⟨⟨v,rfl,rfl,h1⟩,k1⟩;obtain⟨hc1,hf1⟩:=cells_of (k1.blk (show w.drew.heap[E.bb]? =_ from HBo.out) hnb);obtain⟨hm1,hmf1⟩:=cells_of (k1.blk (show w.drew.heap[E.mb]? =_ from HMo.out) hnm)))
     have HK1:=hide ((Kp.refl (one E.rb) w).drew.trans k1)
     have H1:=hide (H.out.read HK1.out h1)
     clear h1 k1
     obtain⟨a1,o1,had,hp1,hr1⟩:=HCe.out w1 H1.out.env
     cases had
     have H2:=hide (H1.out.quiet ((Kp.refl no w1).alloc (.cells #[.int .u8 t.toNat,.bool true] 256)))
     have HT1:=hide (HT.out _ H2.out)
     clear hc hf hm hmf hp0 hr0
     go_wp2_with fail
     refine HT1.out.mono ?_
     rintro r w2 ⟨⟨rfl,s2,h1,hs2⟩,k2⟩
     have hp:s2.pos=s.pos:=hs2.pos
     have HK:=hide (((H.out.nroRb HK1.out).alloc _).trans (H2.out.nroBb k2))
     clear hs2
     have HP:=hide hp
     have HW:=hide (wrong_any h1)
     clear h1 hp
     go_wp2_with fail
     refine HW.out.mono ?_
     rintro e w8 ⟨⟨fv,rfl,fb,rfl,hfb,hfo⟩,k8⟩
     have HF:=hide hfo
     clear hfo
     go_wp2
     go_ret
     rw[HM.out]
     exact⟨⟨ptrTo fb,rfl,fb,rfl,by have :=HK.out.size;omega,by rw[←HP.out];exact HF.out⟩,HK.out.trans k8.any⟩
    |some s1,hM2,HT,hzz=>
     have HM:=hide hM2
     have HZ:=hide (hzz s1 rfl)
     have hz2:=HZ.out.1.cd
     clear hM2 hzz
     go_enter Tryz.func264,Tryz.ntmps264
     go_wp2_with fail
     go_region_held3 (fun w'=>w'.cell? ⟨E.bb,0,none⟩=some (ptrTo E.rb)∧w'.cell? ⟨E.bb,2,none⟩=some (.slice (some ⟨a0,o0,none⟩) E.c.gl.length gcap)) (go_keep) (first |(go_at_call 105;refine(HB.out w.drew ((Kp.refl no w).drew)).mono ?_;rintro e w1 ⟨⟨v,rfl,rfl,h1⟩,k1⟩;obtain⟨hc1,hf1⟩:=cells_of (k1.blk (show w.drew.heap[E.bb]? =_ from HBo.out) hnb);obtain⟨hm1,hmf1⟩:=cells_of (k1.blk (show w.drew.heap[E.mb]? =_ from HMo.out) hnm)))
     have HK1:=hide ((Kp.refl (one E.rb) w).drew.trans k1)
     have H1:=hide (H.out.read HK1.out h1)
     clear h1 k1
     obtain⟨a1,o1,had,hp1,hr1⟩:=HCe.out w1 H1.out.env
     cases had
     have H2:=hide (H1.out.quiet ((Kp.refl no w1).alloc (.cells #[.int .u8 t.toNat,.bool true] 256)))
     have HT1:=hide (HT.out _ H2.out)
     clear hc hf hm hmf hp0 hr0
     go_wp2_with fail
     refine HT1.out.mono ?_
     rintro r w2 ⟨⟨rfl,h2⟩,k2⟩
     have HE:=hide (emit_any h2 ⟨op,n,0,0,0⟩ (by omega))
     have HK2:=hide (((H.out.nroRb HK1.out).alloc _).trans (H2.out.nroBb k2))
     clear h2
     go_wp2_with fail
     refine HE.out.mono ?_
     rintro e w3 ⟨rfl,h3,k3⟩
     have H3:=hide h3
     have HK3:=hide (HK2.out.trans k3)
     clear h3 k3
     go_wp2
     go_ret
     rw[HM.out]
     exact⟨⟨rfl,g,H3.out⟩,HK3.out⟩
end

end Go.Proofs.YtdeplgkhmebalaaGreatDoor
