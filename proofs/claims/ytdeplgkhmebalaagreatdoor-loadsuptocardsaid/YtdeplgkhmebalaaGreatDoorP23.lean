/- The program's look at a body: BLOCK, LOOP, IF. -/
import Derived.Test.YtdeplgkhmebalaaGreatDoorP21
import Derived.Test.YtdeplgkhmebalaaGreatDoorP22

set_option linter.unusedSimpArgs false
set_option linter.unusedVariables false
set_option maxHeartbeats 6000000
set_option maxRecDepth 100000
namespace Go.Proofs.YtdeplgkhmebalaaGreatDoor
open Go.RowKit

section
variable{E:Env} {g N:Nat} {w:World} {s:Bd}

theorem here_eq (h:BSt E g w s) (_hc:s.code.length≤1000000):Calls Tryz.prog 278 #[ptrTo E.bb] w fun r w'=>r= .returned (.int .i64 s.code.length)∧w'=w:=by
 obtain⟨role,sv,cv,kc,bs,h⟩:=h
 obtain⟨hb,-⟩:=cells_of h.body
 obtain⟨hm,-⟩:=cells_of h.mod
 obtain⟨ad,cap,rfl⟩:=own_shape h.code
 clear h
 go_enter Tryz.func278,Tryz.ntmps278
 go_wp2
 go_ret
 exact⟨rfl,rfl⟩

theorem open_a (h:BSt E g w s) (z:Sz N s) (hN:N≤500000) (hne:s.blocks≠[]) (op:UInt8) (hop:op≠4):Calls Tryz.prog 255 #[ptrTo E.bb,.int .u8 op.toNat] w fun r w'=>Done E w w' (openM E.c op s) r∧Kp (nro E.ro) w w':=by
 have hM:openM E.c op s=(match oneOfM E.c.D [127,126,64] s.i with
  | .error e=> .error e
  | .ok (t,j)=>if s.blocks.length -1=16 then wrongM s
   else .ok {emitM {s with i:=j} ⟨op,0,0,0,0⟩with blocks:=s.blocks++[⟨if op=3 then 2 else if op=4 then 3 else 1,if t=64 then []else [t],s.stack.length,s.code.length+1,[]⟩]}):=by
  unfold openM
  simp only[if_neg hop]
  rfl
 generalize openM E.c op s=R at *
 have hst:=z.st
 have hcd:=z.cd
 have hbl:=z.bl
 have hl:0<s.blocks.length:=List.length_pos_iff.2 hne
 have hon:=oneOf_any h.rd ⟨#[127,126,64]⟩ [127,126,64] rfl
 generalize oneOfM E.c.D [127,126,64] s.i=Q at *
 have hkd:=fun W=>kindOf_any op W
 generalize(if op=3 then 2 else if op=4 then 3 else 1:Nat)=kd at *
 obtain⟨i0,hi0,hz0,hz1,hz2⟩:=info_parts info_block
 have H:=hide h
 obtain⟨sv,kc,hbo,ad,cap,rfl⟩:=h.bodyAt
 obtain⟨cv,hmo,hnb,hnm,hmb⟩:=h.modAt
 obtain⟨hc,hf⟩:=cells_of hbo
 have q4:((op.toNat:Int)==4)=(op==4):=u8_eq op 4
 have b4:(op==4)=false:=by simpa using hop
 rw[b4]at q4
 have HBo:=hide hbo
 have HO:=hide hon
 have HKd:=hide hkd
 clear h hon hbo hmo hkd b4 hop z
 match Q,hM,HO with
 | .error e,hM,HO=>
  have HM:=hide hM
  clear hM
  go_enter Tryz.func255,Tryz.ntmps255
  go_wp2_with fail
  refine HO.out.mono ?_
  rintro r w1 ⟨⟨fv,j,rfl,⟨fb,rfl,hfb,hfo⟩,h1⟩,k1⟩
  have HF:=hide hfo
  clear hfo h1
  go_wp2
  go_ret
  rw[HM.out]
  exact⟨⟨ptrTo fb,rfl,fb,rfl,hfb,HF.out⟩,H.out.nroRb k1⟩
 | .ok (t,j),hM,HO=>
  by_cases h16:s.blocks.length -1=16
  ·simp only[if_pos h16]at hM
   have HM:=hide hM
   have hq:((s.blocks.length:Int) -1==16)=true:=by simp;omega
   clear hM h16
   go_enter Tryz.func255,Tryz.ntmps255
   go_wp2_with fail
   refine HO.out.mono ?_
   rintro r w1 ⟨⟨v,rfl,rfl,h1⟩,k1⟩
   have H1:=hide (H.out.read k1 h1)
   obtain⟨hc1,hf1⟩:=cells_of (k1.blk HBo.out hnb)
   have HK:=hide (H.out.nroRb k1)
   have HW:=hide (wrong_any H1.out)
   clear h1 k1 hc hf
   go_wp2_with fail
   refine HW.out.mono ?_
   rintro e w8 ⟨⟨fv,rfl,fb,rfl,hfb,hfo⟩,k8⟩
   have HF:=hide hfo
   clear hfo
   go_wp2
   go_ret
   rw[HM.out]
   exact⟨⟨ptrTo fb,rfl,fb,rfl,by have :=HK.out.size;omega,HF.out⟩,HK.out.trans k8.any⟩
  ·simp only[if_neg h16]at hM
   have hq:((s.blocks.length:Int) -1==16)=false:=by simp;omega
   have q64:((t.toNat:Int) !=64)= !(t==64):=u8_ne t 64
   have hhere:=fun W (h1:BSt E g W {s with i:=j})=>here_eq h1 (by simp only;omega)
   have HH:=hide hhere
   clear h16 hhere
   by_cases h64:t=64
   ·have b64:(t==64)=true:=by simpa using h64
    rw[b64]at q64
    rw[if_pos h64]at hM
    simp only[Bool.not_true]at q64
    have HM:=hide hM
    clear hM h64 b64
    go_enter Tryz.func255,Tryz.ntmps255
    go_wp2_with fail
    refine HO.out.mono ?_
    rintro r w1 ⟨⟨v,rfl,rfl,h1⟩,k1⟩
    have H1:=hide (H.out.read k1 h1)
    have HBo1:=hide (k1.blk HBo.out hnb)
    obtain⟨hc1,hf1⟩:=cells_of HBo1.out
    have HK:=hide (H.out.nroRb k1)
    clear h1 k1 hc hf
    go_wp2_with fail
    go_region_held3 (fun w'=>w'.cell? ⟨E.bb,4,none⟩=some (.slice ad s.stack.length cap)) (go_keep) (first |(go_at_call 277;refine(HKd.out _).mono ?_;rintro e wk ⟨rfl,rfl⟩)|(go_at_call 278;refine(HH.out _ (H1.out.quiet (by repeat' first |exact Kp.refl _ _|apply Kp.drew|apply Kp.drewN|apply Kp.alloc))).mono ?_;rintro e w2 ⟨rfl,rfl⟩))
    all_goals
     go_wp2_with fail
     refine(emit_any (E:=E.plus (one w1.heap.size)) (H1.out.guard (by repeat' first |exact Kp.refl _ _|apply Kp.drew|apply Kp.drewN|apply Kp.alloc) (one w1.heap.size) (by intro b hb;cases hb;constructor <;>simp <;>omega)) ⟨op,0,0,0,0⟩ (by simp only;omega)).mono ?_
     rintro e w5 ⟨rfl,h5,k5⟩
     have hnx:=k5.blk (k:=w1.heap.size) (o:= .cells #[.int .i64 kd,.slice none 0 0,.int .i64 s.stack.length,.int .i64 ((s.code.length:Int)+1),.slice none 0 0] 298) (heap_alloc_old (heap_alloc_new w1 _)) (fun hn=>hn (.inr rfl))
     obtain⟨hx5,hxf5⟩:=cells_of hnx
     have hrv5:BytesAt w5 (.slice none 0 0) ([]):=BytesAt.nil w5
     have HK5:=hide (Kp.trans (show Kp (nro (E.plus (one w1.heap.size)).ro) w1 _ from(by repeat' first |exact Kp.refl _ _|apply Kp.drew|apply Kp.drewN|apply Kp.alloc)) k5)
     obtain⟨sv5,kc5,xs5,hbo5,⟨ad5,cap5,hsv5⟩,hn5,hown5,hpush5⟩:=h5.push
     subst hsv5
     obtain⟨hc5,hf5⟩:=cells_of hbo5
     have hlb5:E.bb<w5.heap.size:=lt_of_blk hbo5
     have hB5:E.B≤w5.heap.size:=h5.env.base
     have HOw:=hide hown5
     have HPu:=hide hpush5
     have HRv:=hide hrv5
     have H5:=hide h5
     have HMc5:=hide (fun(X:Obj)=>(cells_of (heap_alloc_old (o:=X) hbo5)).1 5)
     have HMf5:=hide (fun(X:Obj)=>(cells_of (heap_alloc_old (o:=X) hbo5)).2 5)
     clear h5 k5 hbo5 hown5 hpush5 hrv5 hnx
     go_wp2_with fail
     go_region_law ((refine step_append_at _ (by rfl) _ _ _ (by rfl) E.B 298 i0 _ 5 72 Tryz.underlying261 hi0 hz0 hz1 hz2 rfl (by omega) _ s.blocks.length _ (by rfl) (HOw.out _ (by repeat' first |exact Kp.refl _ _|apply Kp.drew|apply Kp.drewN|apply Kp.alloc)) (.slice (some ⟨w5.heap.size,0,none⟩) 1 1) 1 [.int .i64 kd,.slice none 0 0,.int .i64 s.stack.length,.int .i64 ((s.code.length:Int)+1),.slice none 0 0] (by rfl) (RowAt.allocAt rfl #[.int .i64 kd,.slice none 0 0,.int .i64 s.stack.length,.int .i64 ((s.code.length:Int)+1),.slice none 0 0] _ 1 5 rfl) (by simp[Value.oneCell']) (by simp only[maxLen];omega) (by omega) (by simp;omega) ?_;intro v1 w7 hown1 hgrow hat;obtain⟨g1,kc1,rfl,-,-⟩:=hown1.form (by omega);have hmc1:=(hgrow.cell_far ⟨E.bb,5,none⟩ (by simp;omega) hn5).trans (HMc5.out _);have hmf1:=(hgrow.frozen_far ⟨E.bb,5,none⟩ (by simp;omega) hn5).trans (HMf5.out _)))
     all_goals
      obtain⟨h8,k8⟩:=HPu.out ⟨kd,[],s.stack.length,s.code.length+1,[]⟩ (.slice none 0 0) _ _ _ _ _ _ rfl (show Kp no w5 _ from(by repeat' first |exact Kp.refl _ _|apply Kp.drew|apply Kp.drewN|apply Kp.alloc)) (HRv.out.kp (show Kp no w5 _ from(by repeat' first |exact Kp.refl _ _|apply Kp.drew|apply Kp.drewN|apply Kp.alloc)) (fun _ _ h=>h)) (fun c hc=>by cases hc) rfl (by simp[bkCells]) hown1 hgrow hat
      have HK8:=hide (HK5.out.trans k8)
      have H8:=hide (h8.unguard (H1.out.env.kp HK8.out.unguard))
      clear h8 k8 hown1 hgrow hat hmc1 hmf1
      go_wp2
      go_ret
      rw[HM.out]
      exact⟨⟨rfl,g1,H8.out⟩,HK.out.trans HK8.out.unguard⟩
   ·have b64:(t==64)=false:=by simpa using h64
    rw[b64]at q64
    rw[if_neg h64]at hM
    simp only[Bool.not_false]at q64
    have HM:=hide hM
    clear hM h64 b64
    go_enter Tryz.func255,Tryz.ntmps255
    go_wp2_with fail
    refine HO.out.mono ?_
    rintro r w1 ⟨⟨v,rfl,rfl,h1⟩,k1⟩
    have H1:=hide (H.out.read k1 h1)
    have HBo1:=hide (k1.blk HBo.out hnb)
    obtain⟨hc1,hf1⟩:=cells_of HBo1.out
    have HK:=hide (H.out.nroRb k1)
    clear h1 k1 hc hf
    go_wp2_with fail
    go_region_held3 (fun w'=>w'.cell? ⟨E.bb,4,none⟩=some (.slice ad s.stack.length cap)) (go_keep) (first |(go_at_call 277;refine(HKd.out _).mono ?_;rintro e wk ⟨rfl,rfl⟩)|(go_at_call 278;refine(HH.out _ (H1.out.quiet (by repeat' first |exact Kp.refl _ _|apply Kp.drew|apply Kp.drewN|apply Kp.alloc))).mono ?_;rintro e w2 ⟨rfl,rfl⟩))
    all_goals
     go_wp2_with fail
     refine(emit_any (E:=E.plus (fun b=>b=w1.heap.size∨b=w1.heap.size+1)) (H1.out.guard (by repeat' first |exact Kp.refl _ _|apply Kp.drew|apply Kp.drewN|apply Kp.alloc) (fun b=>b=w1.heap.size∨b=w1.heap.size+1) (by intro b hb;rcases hb with hb|hb<;>subst hb<;>constructor <;>simp <;>omega)) ⟨op,0,0,0,0⟩ (by simp only;omega)).mono ?_
     rintro e w5 ⟨rfl,h5,k5⟩
     have hnx:=k5.blk (k:=w1.heap.size) (o:= .cells #[.int .i64 kd,.slice (some ⟨w1.heap.size+1,0,none⟩) 1 1,.int .i64 s.stack.length,.int .i64 ((s.code.length:Int)+1),.slice none 0 0] 298) (heap_alloc_old (heap_alloc_old (heap_alloc_new w1 _))) (fun hn=>hn (.inr (.inl rfl)))
     obtain⟨hx5,hxf5⟩:=cells_of hnx
     have hrb:=k5.blk (k:=w1.heap.size+1) (o:= .cells #[.int .u8 t.toNat] 5) (heap_alloc_old (by have :=heap_alloc_new (w1.alloc (.cells #[.int .i64 kd,.slice (some ⟨w1.heap.size+1,0,none⟩) 1 1,.int .i64 s.stack.length,.int .i64 ((s.code.length:Int)+1),.slice none 0 0] 298)) (.cells #[.int .u8 t.toNat] 5);simpa using this)) (fun hn=>hn (.inr (.inr rfl)))
     have hrv5:BytesAt w5 (.slice (some ⟨w1.heap.size+1,0,none⟩) 1 1) ([t]):=RowAt.ofBlock hrb 1 1 rfl
     clear hrb
     have HK5:=hide (Kp.trans (show Kp (nro (E.plus (fun b=>b=w1.heap.size∨b=w1.heap.size+1)).ro) w1 _ from(by repeat' first |exact Kp.refl _ _|apply Kp.drew|apply Kp.drewN|apply Kp.alloc)) k5)
     obtain⟨sv5,kc5,xs5,hbo5,⟨ad5,cap5,hsv5⟩,hn5,hown5,hpush5⟩:=h5.push
     subst hsv5
     obtain⟨hc5,hf5⟩:=cells_of hbo5
     have hlb5:E.bb<w5.heap.size:=lt_of_blk hbo5
     have hB5:E.B≤w5.heap.size:=h5.env.base
     have HOw:=hide hown5
     have HPu:=hide hpush5
     have HRv:=hide hrv5
     have H5:=hide h5
     have HMc5:=hide (fun(X:Obj)=>(cells_of (heap_alloc_old (o:=X) hbo5)).1 5)
     have HMf5:=hide (fun(X:Obj)=>(cells_of (heap_alloc_old (o:=X) hbo5)).2 5)
     clear h5 k5 hbo5 hown5 hpush5 hrv5 hnx
     go_wp2_with fail
     go_region_law ((refine step_append_at _ (by rfl) _ _ _ (by rfl) E.B 298 i0 _ 5 72 Tryz.underlying261 hi0 hz0 hz1 hz2 rfl (by omega) _ s.blocks.length _ (by rfl) (HOw.out _ (by repeat' first |exact Kp.refl _ _|apply Kp.drew|apply Kp.drewN|apply Kp.alloc)) (.slice (some ⟨w5.heap.size,0,none⟩) 1 1) 1 [.int .i64 kd,.slice (some ⟨w1.heap.size+1,0,none⟩) 1 1,.int .i64 s.stack.length,.int .i64 ((s.code.length:Int)+1),.slice none 0 0] (by rfl) (RowAt.allocAt rfl #[.int .i64 kd,.slice (some ⟨w1.heap.size+1,0,none⟩) 1 1,.int .i64 s.stack.length,.int .i64 ((s.code.length:Int)+1),.slice none 0 0] _ 1 5 rfl) (by simp[Value.oneCell']) (by simp only[maxLen];omega) (by omega) (by simp;omega) ?_;intro v1 w7 hown1 hgrow hat;obtain⟨g1,kc1,rfl,-,-⟩:=hown1.form (by omega);have hmc1:=(hgrow.cell_far ⟨E.bb,5,none⟩ (by simp;omega) hn5).trans (HMc5.out _);have hmf1:=(hgrow.frozen_far ⟨E.bb,5,none⟩ (by simp;omega) hn5).trans (HMf5.out _)))
     all_goals
      obtain⟨h8,k8⟩:=HPu.out ⟨kd,[t],s.stack.length,s.code.length+1,[]⟩ (.slice (some ⟨w1.heap.size+1,0,none⟩) 1 1) _ _ _ _ _ _ rfl (show Kp no w5 _ from(by repeat' first |exact Kp.refl _ _|apply Kp.drew|apply Kp.drewN|apply Kp.alloc)) (HRv.out.kp (show Kp no w5 _ from(by repeat' first |exact Kp.refl _ _|apply Kp.drew|apply Kp.drewN|apply Kp.alloc)) (fun _ _ h=>h)) (fun c hc=>by cases hc;exact .inr (.inr rfl)) rfl (by simp[bkCells]) hown1 hgrow hat
      have HK8:=hide (HK5.out.trans k8)
      have H8:=hide (h8.unguard (H1.out.env.kp HK8.out.unguard))
      clear h8 k8 hown1 hgrow hat hmc1 hmf1
      go_wp2
      go_ret
      rw[HM.out]
      exact⟨⟨rfl,g1,H8.out⟩,HK.out.trans HK8.out.unguard⟩
end

end Go.Proofs.YtdeplgkhmebalaaGreatDoor
