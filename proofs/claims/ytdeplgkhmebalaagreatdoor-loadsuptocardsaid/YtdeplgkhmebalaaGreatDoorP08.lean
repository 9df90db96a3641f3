/- The document's reader: one instruction. -/
import Derived.Test.YtdeplgkhmebalaaGreatDoorP07

set_option linter.unusedSimpArgs false
set_option linter.unusedVariables false
set_option maxHeartbeats 1000000
set_option maxRecDepth 100000
namespace Go.Proofs.YtdeplgkhmebalaaGreatDoor.Rf
open Go.RowKit

theorem three (w:World) (a0 a1 a2:Obj):((((w.alloc a0).alloc a1).alloc a2).heap[w.heap.size]? =some a0∧(((w.alloc a0).alloc a1).alloc a2).heap[w.heap.size+1]? =some a1∧(((w.alloc a0).alloc a1).alloc a2).heap[w.heap.size+1+1]? =some a2)∧Kp no w (((w.alloc a0).alloc a1).alloc a2):=
 ⟨⟨heap_alloc_old (heap_alloc_old (heap_alloc_at _ rfl)),heap_alloc_old (heap_alloc_at _ (by simp)),heap_alloc_at _ (by simp)⟩,(((Kp.refl no w).alloc _).alloc _).alloc _⟩
theorem three_cell {w:World} {b:Nat} (h:b<w.heap.size) (a0 a1 a2:Obj) (o:Nat):(((w.alloc a0).alloc a1).alloc a2).cell? ⟨b,o,none⟩=w.cell? ⟨b,o,none⟩:=by
 rw[cell_alloc_old (by simp;omega),cell_alloc_old (by simp;omega),cell_alloc_old h]

theorem fin7o (w:World) (a oa b:Nat) (u0 u1 u2 u3 u4 u5 u6:Value):Kp (two a b) w (((((((w.setCell ⟨a,oa,none⟩ u0).setCell ⟨b,0,none⟩ u1).setCell ⟨b,1,none⟩ u2).setCell ⟨b,2,none⟩ u3).setCell ⟨b,3,none⟩ u4).setCell ⟨b,4,none⟩ u5).setCell ⟨b,5,none⟩ u6):=
 (((((((Kp.refl _ _).setAt (.inl rfl) _ _).setAt (.inr rfl) _ _).setAt (.inr rfl) _ _).setAt (.inr rfl) _ _).setAt (.inr rfl) _ _).setAt (.inr rfl) _ _).setAt (.inr rfl) _ _
theorem IntsAt.blk {w:World} {g:Nat} {t:TypeId} {x:Int} (h:w.heap[g]? =some (.cells #[.int .i64 x] t)):IntsAt w (.slice (some ⟨g,0,none⟩) 1 1) [x]:=
 ⟨rfl,.inr ⟨g,0,1,rfl,Nat.le_refl _,fun k u hk=>by
  match k,hk with
  |0,hk=>simp[World.cell?,h]at hk⊢;exact hk⟩⟩

theorem _root_.Go.Proofs.YtdeplgkhmebalaaGreatDoor.BytesAt.lt {w:World} {v:Value} {l:List UInt8} (h:BytesAt w v l) (hl:l≠[]): ∀b,v.ownBlock=some b→b<w.heap.size:=by
 intro b hb
 have hl':0<l.length:=List.length_pos_iff.2 hl
 obtain⟨a,o,cap,rfl,-,hc⟩:=h.get hl'
 simp only[Value.ownBlock,Option.some.injEq]at hb
 subst hb
 exact lt_of_cell hc
theorem _root_.Go.Proofs.YtdeplgkhmebalaaGreatDoor.BytesAt.empty {w w':World} {v:Value} (h:BytesAt w v []):BytesAt w' v []:=by
 obtain⟨hl,h|⟨a,o,cap,rfl,hc,-⟩⟩:=h
 ·exact⟨hl,.inl h⟩
 ·exact⟨hl,.inr ⟨a,o,cap,rfl,hc,fun k x hk=>by simp at hk⟩⟩
theorem HeldI.on {w W w1 w2:World} {S:Nat→Prop} {pb:Nat} {v:Value} {l:List Int} (h:HeldI W w1 pb v l) (k:Kp S w1 w2) (hW:w.heap.size≤W.heap.size) (hS: ∀b,S b→b<W.heap.size):HeldI w w2 pb v l:=
 ⟨h.1,RowAt.kp h.2.1 k (fun b hb e=>by have :=h.2.2 b hb;have :=hS b e;omega),fun b hb=>by have :=h.2.2 b hb;omega⟩
theorem Held.on {w0 w W w1 w2:World} {S:Nat→Prop} {pb:Nat} {v:Value} {l:List UInt8} (h:Held w0 W w1 pb v l) (k0:Kp (one pb) w0 w) (k:Kp S w1 w2) (hW:w.heap.size≤W.heap.size) (hS: ∀b,S b→w.heap.size≤b∧b<W.heap.size):Held w0 w w2 pb v l:=by
 obtain⟨h1,h2,h3⟩:=h
 refine⟨h1,?_,?_⟩
 ·rcases h3 with h3|h3
  ·by_cases hl:l=[]
   ·subst hl;exact h2.empty
   ·exact h2.kp k (fun b hb e=>by have :=h3.lt hl b hb;have :=hS b e;have :=k0.size;omega)
  ·exact h2.kp k (fun b hb e=>by have :=h3 b hb;have :=hS b e;omega)
 ·rcases h3 with h3|h3
  ·exact .inl h3
  ·exact .inr (fun b hb=>by have :=h3 b hb;omega)

theorem four_cell {w:World} {b:Nat} (h:b<w.heap.size) (a0 a1 a2 a3:Obj) (o:Nat):((((w.alloc a0).alloc a1).alloc a2).alloc a3).cell? ⟨b,o,none⟩=w.cell? ⟨b,o,none⟩:=by
 rw[cell_alloc_old (by simp;omega),cell_alloc_old (by simp;omega),cell_alloc_old (by simp;omega),cell_alloc_old h]

def instrM (E:PE) (G:Env) (labels:List (List UInt8)) (stack:List UInt8) (op:Nat) (σ:PS):IR×PS:=
 if op=0∨op=1 then ({n:=0,labels:=[],value:=0,take:=[],put:=[],ok:=true},σ)
 else if op=2∨op=3∨op=4 then ({n:=(needM E 64 127 126 σ).1.toNat,labels:=[],value:=0,take:=if op=4 then [127]else [],put:=[],ok:=true},(needM E 64 127 126 σ).2)
 else if op=12∨op=13 then ({n:=0,labels:=[((labelM E labels σ).1.1:Int)],value:=(labelM E labels σ).1.2.length,take:=(labelM E labels σ).1.2++(if op=13 then [127]else []),put:=(labelM E labels σ).1.2,ok:=true},(labelM E labels σ).2)
 else if op=14 then tableM E labels σ
 else if op=15 then ({n:=0,labels:=[(labels.length:Int) -1],value:=(labels.getD 0 []).length,take:=labels.getD 0 [],put:=labels.getD 0 [],ok:=true},σ)
 else if op=16 then
  (if badM (uM E ((G.funcs.length:Int) -1) σ).2 then ({n:=0,labels:=[],value:=0,take:=[],put:=[],ok:=false},(uM E ((G.funcs.length:Int) -1) σ).2)else
  ({n:=(uM E ((G.funcs.length:Int) -1) σ).1,labels:=[],value:=0,take:=(G.funcs.getD (uM E ((G.funcs.length:Int) -1) σ).1 ([],[])).1,put:=(G.funcs.getD (uM E ((G.funcs.length:Int) -1) σ).1 ([],[])).2,ok:=true},(uM E ((G.funcs.length:Int) -1) σ).2))
 else if op=26 then (if stack=[]then ({n:=0,labels:=[],value:=0,take:=[],put:=[],ok:=false},σ)else ({n:=0,labels:=[],value:=0,take:=[stack.getD (stack.length -1) 0],put:=[],ok:=true},σ))
 else if op=27 then (if stack.length<3 then ({n:=0,labels:=[],value:=0,take:=[],put:=[],ok:=false},σ)else ({n:=0,labels:=[],value:=0,take:=[stack.getD (stack.length -2) 0,stack.getD (stack.length -2) 0,127],put:=[stack.getD (stack.length -2) 0],ok:=true},σ))
 else plainM E G op σ

structure Read0 (w:World) (pb:Nat) (E:PE) (G:Env) (labels:List (List UInt8)) (stack:List UInt8) (lv sv:Value):Prop where
 env:EnvAt w pb E G
 lab:LabelsAt w pb lv labels
 labL:labels.length≤1000
 labLL: ∀l∈labels,l.length≤1000
 lab0:0<labels.length
 stk:BytesAt w sv stack
 stkS:Sep pb sv
 stkL:stack.length≤100000000

theorem instr_0 {w0 w:World} {pb:Nat} {E:PE} {G:Env} {labels:List (List UInt8)} {stack:List UInt8} {lv sv:Value} {σ:PS} (h:Read0 w0 pb E G labels stack lv sv) (hst:PSt w pb E σ) (k0:Kp (one pb) w0 w) (at_:Int):
  Calls Tryz.prog 192 #[ptr pb,.int .u8 0,.int .i64 at_,sv,lv] w fun r w'=>Told w0 w w' pb 0 (instrM E G labels stack 0 σ).1 r∧PSt w' pb E (instrM E G labels stack 0 σ).2∧Kp (one pb) w w':=by
 have hM:instrM E G labels stack 0 σ=({n:=0,labels:=[],value:=0,take:=[],put:=[],ok:=true},σ):=rfl
 rw[hM]
 clear hM
 have H:=hide h
 have HST:=hide hst
 have HK0:=hide k0
 have hpb:=hst.lt
 clear h hst k0
 have H3:=hide (three w (.cells #[.int .u8 0,.int .u64 0,nilS,nilS,nilS,.int .i64 0] 309) (.cells #[.int .u8 0,.int .u64 0,nilS,nilS,nilS,.int .i64 0] 309) (.cells #[.int .u8 127] 5))
 go_enter Tryz.func192,Tryz.ntmps192
 go_wp2
 refine bodyPost_ret (v:= .tuple #[nodeV 0 0 nilS nilS nilS 0,nilS,nilS,.bool true]) (by simp[results,Tryz.results192,go_sem]) rfl ?_
 have k:Kp no w _:=(((Kp.refl no w).alloc (.cells #[.int .u8 0,.int .u64 0,nilS,nilS,nilS,.int .i64 0] 309)).alloc (.cells #[.int .u8 0,.int .u64 0,nilS,nilS,nilS,.int .i64 0] 309)).alloc (.cells #[.int .u8 127] 5)
 exact⟨⟨nilS,nilS,nilS,rfl,labNil _ _ _,heldNil _ _ _ _,heldNil _ _ _ _⟩,HST.out.no k,k.any⟩

theorem instr_1 {w0 w:World} {pb:Nat} {E:PE} {G:Env} {labels:List (List UInt8)} {stack:List UInt8} {lv sv:Value} {σ:PS} (h:Read0 w0 pb E G labels stack lv sv) (hst:PSt w pb E σ) (k0:Kp (one pb) w0 w) (at_:Int):
  Calls Tryz.prog 192 #[ptr pb,.int .u8 1,.int .i64 at_,sv,lv] w fun r w'=>Told w0 w w' pb 1 (instrM E G labels stack 1 σ).1 r∧PSt w' pb E (instrM E G labels stack 1 σ).2∧Kp (one pb) w w':=by
 have hM:instrM E G labels stack 1 σ=({n:=0,labels:=[],value:=0,take:=[],put:=[],ok:=true},σ):=rfl
 rw[hM]
 clear hM
 have H:=hide h
 have HST:=hide hst
 have HK0:=hide k0
 have hpb:=hst.lt
 clear h hst k0
 have H3:=hide (three w (.cells #[.int .u8 0,.int .u64 0,nilS,nilS,nilS,.int .i64 0] 309) (.cells #[.int .u8 1,.int .u64 0,nilS,nilS,nilS,.int .i64 0] 309) (.cells #[.int .u8 127] 5))
 go_enter Tryz.func192,Tryz.ntmps192
 go_wp2
 refine bodyPost_ret (v:= .tuple #[nodeV 1 0 nilS nilS nilS 0,nilS,nilS,.bool true]) (by simp[results,Tryz.results192,go_sem]) rfl ?_
 have k:Kp no w _:=(((Kp.refl no w).alloc (.cells #[.int .u8 1,.int .u64 0,nilS,nilS,nilS,.int .i64 0] 309)).alloc (.cells #[.int .u8 1,.int .u64 0,nilS,nilS,nilS,.int .i64 0] 309)).alloc (.cells #[.int .u8 127] 5)
 exact⟨⟨nilS,nilS,nilS,rfl,labNil _ _ _,heldNil _ _ _ _,heldNil _ _ _ _⟩,HST.out.no k,k.any⟩

theorem instr_2 {w0 w:World} {pb:Nat} {E:PE} {G:Env} {labels:List (List UInt8)} {stack:List UInt8} {lv sv:Value} {σ:PS} (h:Read0 w0 pb E G labels stack lv sv) (hst:PSt w pb E σ) (k0:Kp (one pb) w0 w) (at_:Int):
  Calls Tryz.prog 192 #[ptr pb,.int .u8 2,.int .i64 at_,sv,lv] w fun r w'=>Told w0 w w' pb 2 (instrM E G labels stack 2 σ).1 r∧PSt w' pb E (instrM E G labels stack 2 σ).2∧Kp (one pb) w w':=by
 have hM:instrM E G labels stack 2 σ=({n:=(needM E 64 127 126 σ).1.toNat,labels:=[],value:=0,take:=[],put:=[],ok:=true},(needM E 64 127 126 σ).2):=rfl
 rw[hM]
 clear hM
 have H:=hide h
 have HST:=hide hst
 have HK0:=hide k0
 have hpb:=hst.lt
 clear h hst k0
 have H3:=hide (three w (.cells #[.int .u8 0,.int .u64 0,nilS,nilS,nilS,.int .i64 0] 309) (.cells #[.int .u8 2,.int .u64 0,nilS,nilS,nilS,.int .i64 0] 309) (.cells #[.int .u8 127] 5))
 have hu:=fun(W:World) (hW:PSt W pb E σ)=>need_any hW 64 127 126
 generalize(needM E 64 127 126 σ).1=x at *
 generalize(needM E 64 127 126 σ).2=σ1 at *
 have hx:=x.toNat_lt
 have Hu:=hide hu
 clear hu
 go_enter Tryz.func192,Tryz.ntmps192
 go_wp2_with fail
 refine(Hu.out _ (HST.out.no (by exact H3.out.2))).mono ?_
 rintro e w1 ⟨rfl,h1,k1⟩
 have H1:=hide h1
 obtain⟨hc0,hf0⟩:=cells_of (k1.blk H3.out.1.1 (by unfold one;omega))
 obtain⟨hc1,hf1⟩:=cells_of (k1.blk H3.out.1.2.1 (by unfold one;omega))
 clear h1
 go_wp2
 refine bodyPost_ret (v:= .tuple #[nodeV 2 x.toNat nilS nilS nilS 0,nilS,nilS,.bool true]) (by simp[results,Tryz.results192,go_sem,hc0]) rfl ?_
 have kf:=fin7 w1 (w.heap.size+1) w.heap.size (.int .u64 x.toNat) (.int .u8 2) (.int .u64 x.toNat) nilS nilS nilS (.int .i64 0)
 exact⟨⟨nilS,_,_,rfl,labNil _ _ _,heldNil _ _ _ _,heldNil _ _ _ _⟩,H1.out.keep kf (fun k hk=>by unfold two;omega),(H3.out.2.any.trans k1).comp kf (fun _ _ h=>h) (fun k hk h=>by unfold two at h;omega)⟩

theorem instr_3 {w0 w:World} {pb:Nat} {E:PE} {G:Env} {labels:List (List UInt8)} {stack:List UInt8} {lv sv:Value} {σ:PS} (h:Read0 w0 pb E G labels stack lv sv) (hst:PSt w pb E σ) (k0:Kp (one pb) w0 w) (at_:Int):
  Calls Tryz.prog 192 #[ptr pb,.int .u8 3,.int .i64 at_,sv,lv] w fun r w'=>Told w0 w w' pb 3 (instrM E G labels stack 3 σ).1 r∧PSt w' pb E (instrM E G labels stack 3 σ).2∧Kp (one pb) w w':=by
 have hM:instrM E G labels stack 3 σ=({n:=(needM E 64 127 126 σ).1.toNat,labels:=[],value:=0,take:=[],put:=[],ok:=true},(needM E 64 127 126 σ).2):=rfl
 rw[hM]
 clear hM
 have H:=hide h
 have HST:=hide hst
 have HK0:=hide k0
 have hpb:=hst.lt
 clear h hst k0
 have H3:=hide (three w (.cells #[.int .u8 0,.int .u64 0,nilS,nilS,nilS,.int .i64 0] 309) (.cells #[.int .u8 3,.int .u64 0,nilS,nilS,nilS,.int .i64 0] 309) (.cells #[.int .u8 127] 5))
 have hu:=fun(W:World) (hW:PSt W pb E σ)=>need_any hW 64 127 126
 generalize(needM E 64 127 126 σ).1=x at *
 generalize(needM E 64 127 126 σ).2=σ1 at *
 have hx:=x.toNat_lt
 have Hu:=hide hu
 clear hu
 go_enter Tryz.func192,Tryz.ntmps192
 go_wp2_with fail
 refine(Hu.out _ (HST.out.no (by exact H3.out.2))).mono ?_
 rintro e w1 ⟨rfl,h1,k1⟩
 have H1:=hide h1
 obtain⟨hc0,hf0⟩:=cells_of (k1.blk H3.out.1.1 (by unfold one;omega))
 obtain⟨hc1,hf1⟩:=cells_of (k1.blk H3.out.1.2.1 (by unfold one;omega))
 clear h1
 go_wp2
 refine bodyPost_ret (v:= .tuple #[nodeV 3 x.toNat nilS nilS nilS 0,nilS,nilS,.bool true]) (by simp[results,Tryz.results192,go_sem,hc0]) rfl ?_
 have kf:=fin7 w1 (w.heap.size+1) w.heap.size (.int .u64 x.toNat) (.int .u8 3) (.int .u64 x.toNat) nilS nilS nilS (.int .i64 0)
 exact⟨⟨nilS,_,_,rfl,labNil _ _ _,heldNil _ _ _ _,heldNil _ _ _ _⟩,H1.out.keep kf (fun k hk=>by unfold two;omega),(H3.out.2.any.trans k1).comp kf (fun _ _ h=>h) (fun k hk h=>by unfold two at h;omega)⟩

theorem instr_4 {w0 w:World} {pb:Nat} {E:PE} {G:Env} {labels:List (List UInt8)} {stack:List UInt8} {lv sv:Value} {σ:PS} (h:Read0 w0 pb E G labels stack lv sv) (hst:PSt w pb E σ) (k0:Kp (one pb) w0 w) (at_:Int):
  Calls Tryz.prog 192 #[ptr pb,.int .u8 4,.int .i64 at_,sv,lv] w fun r w'=>Told w0 w w' pb 4 (instrM E G labels stack 4 σ).1 r∧PSt w' pb E (instrM E G labels stack 4 σ).2∧Kp (one pb) w w':=by
 have hM:instrM E G labels stack 4 σ=({n:=(needM E 64 127 126 σ).1.toNat,labels:=[],value:=0,take:=[127],put:=[],ok:=true},(needM E 64 127 126 σ).2):=rfl
 rw[hM]
 clear hM
 have H:=hide h
 have HST:=hide hst
 have HK0:=hide k0
 have hpb:=hst.lt
 clear h hst k0
 have H3:=hide (three w (.cells #[.int .u8 0,.int .u64 0,nilS,nilS,nilS,.int .i64 0] 309) (.cells #[.int .u8 4,.int .u64 0,nilS,nilS,nilS,.int .i64 0] 309) (.cells #[.int .u8 127] 5))
 have hu:=fun(W:World) (hW:PSt W pb E σ)=>need_any hW 64 127 126
 generalize(needM E 64 127 126 σ).1=x at *
 generalize(needM E 64 127 126 σ).2=σ1 at *
 have hx:=x.toNat_lt
 have Hu:=hide hu
 clear hu
 go_enter Tryz.func192,Tryz.ntmps192
 go_wp2_with fail
 refine(Hu.out _ (HST.out.no (by exact H3.out.2))).mono ?_
 rintro e w1 ⟨rfl,h1,k1⟩
 have H1:=hide h1
 obtain⟨hc0,hf0⟩:=cells_of (k1.blk H3.out.1.1 (by unfold one;omega))
 obtain⟨hc1,hf1⟩:=cells_of (k1.blk H3.out.1.2.1 (by unfold one;omega))
 clear h1
 go_wp2
 refine bodyPost_ret (v:= .tuple #[nodeV 4 x.toNat nilS nilS nilS 0,.slice (some ⟨w.heap.size+1+1,0,none⟩) 1 1,nilS,.bool true]) (by simp[results,Tryz.results192,go_sem,hc0]) rfl ?_
 have kf:=fin7 w1 (w.heap.size+1) w.heap.size (.int .u64 x.toNat) (.int .u8 4) (.int .u64 x.toNat) nilS nilS nilS (.int .i64 0)
 exact⟨⟨nilS,_,_,rfl,labNil _ _ _,heldNew hpb (BytesAt.blk (l:=[127]) (kf.blk (k1.blk H3.out.1.2.2 (by unfold one;omega)) (by unfold two;omega))) (by omega),heldNil _ _ _ _⟩,H1.out.keep kf (fun k hk=>by unfold two;omega),(H3.out.2.any.trans k1).comp kf (fun _ _ h=>h) (fun k hk h=>by unfold two at h;omega)⟩

theorem instr_12 {w0 w:World} {pb:Nat} {E:PE} {G:Env} {labels:List (List UInt8)} {stack:List UInt8} {lv sv:Value} {σ:PS} (h:Read0 w0 pb E G labels stack lv sv) (hst:PSt w pb E σ) (k0:Kp (one pb) w0 w) (at_:Int):
  Calls Tryz.prog 192 #[ptr pb,.int .u8 12,.int .i64 at_,sv,lv] w fun r w'=>Told w0 w w' pb 12 (instrM E G labels stack 12 σ).1 r∧PSt w' pb E (instrM E G labels stack 12 σ).2∧Kp (one pb) w w':=by
 have hM:instrM E G labels stack 12 σ=({n:=0,labels:=[((labelM E labels σ).1.1:Int)],value:=(labelM E labels σ).1.2.length,take:=(labelM E labels σ).1.2,put:=(labelM E labels σ).1.2,ok:=true},(labelM E labels σ).2):=by simp[instrM]
 rw[hM]
 clear hM
 have H:=hide h
 have HST:=hide hst
 have HK0:=hide k0
 have hpb:=hst.lt
 clear h hst k0
 have H3:=hide (three w (.cells #[.int .u8 0,.int .u64 0,nilS,nilS,nilS,.int .i64 0] 309) (.cells #[.int .u8 12,.int .u64 0,nilS,nilS,nilS,.int .i64 0] 309) (.cells #[.int .u8 127] 5))
 have hu:=fun(W:World) (hW:PSt W pb E σ) (k:Kp (one pb) w W)=>label_any hW H.out.lab (HK0.out.trans k) H.out.labL
 have hll:=label_len (E:=E) (σ:=σ) H.out.labLL
 generalize(labelM E labels σ).1.1=ln at *
 generalize(labelM E labels σ).1.2=ll at *
 generalize(labelM E labels σ).2=σ1 at *
 have Hu:=hide hu
 obtain⟨i1,hi1,hy0,hy1,hy2⟩:=info_u8'
 clear hu
 go_enter Tryz.func192,Tryz.ntmps192
 go_wp2_with fail
 refine(Hu.out _ (HST.out.no (by exact H3.out.2)) (by exact H3.out.2.any)).mono ?_
 rintro e w1 ⟨lv1,rfl,hbl,hsl,h1,k1⟩
 obtain⟨ad1,cap1,rfl,hc1'⟩:=hbl.shape
 have H1:=hide h1
 have HBL:=hide hbl
 have HSL:=hide hsl
 have HK1:=hide (H3.out.2.any.trans k1)
 have HB0:=hide (k1.blk H3.out.1.1 (show ¬one pb w.heap.size by unfold one;omega))
 have HB1:=hide (k1.blk H3.out.1.2.1 (show ¬one pb (w.heap.size+1)by unfold one;omega))
 obtain⟨hc0,hf0⟩:=cells_of HB0.out
 obtain⟨hc1,hf1⟩:=cells_of HB1.out
 have hlt1:w.heap.size+1<w1.heap.size:=lt_of_blk HB1.out
 have hlt0:w.heap.size<w1.heap.size:=by omega
 clear h1 hbl hsl
 go_wp2_with(at_builtin;refine wpList_append_row _ rfl _ _ 25 rfl (w1.heap.size+1) 5 i1 (.int .u8 0) 1 1 Tryz.underlying25 hi1 hy0 hy1 hy2 rfl (by decide) _ _ _ rfl (World.ownsRow_nil _ _ _ _) _ ll.length (byteVals ll) rfl ?c2 (bytes_oneCell _) ?c3 ?c4 ?c5 ?_)
 case c2=>exact HBL.out.one HSL.out (HK0.out.trans ((HK1.out.setNew (by omega) _ _).alloc _))
 case c3=>unfold maxLen;omega
 case c4=>omega
 case c5=>simp
 intro v5 w5 hown5 hgrow5
 have k5:Kp no ((w1.setCell ⟨w.heap.size+1,2,none⟩ (.slice (some ⟨w1.heap.size,0,none⟩) 1 1)).alloc (.cells #[.int .i64 ln] 3)) w5:=(Kp.refl no _).grown hgrow5 (fun k hk=>by cases hk)
 have HB15:=hide (k5.blk (heap_alloc_old (heap_setCell HB1.out (.slice (some ⟨w1.heap.size,0,none⟩) 1 1))) (fun h=>h))
 have HB05:=hide (k5.blk (heap_alloc_old (heap_setCell_ne (by omega) (.slice (some ⟨w1.heap.size,0,none⟩) 1 1) HB0.out)) (fun h=>h))
 have HL5:=hide (k5.blk (k:=w1.heap.size) (heap_alloc_at (.cells #[.int .i64 ln] 3) (by simp[World.setCell])) (fun h=>h))
 have HS5:=hide ((H1.out.keep (((Kp.refl (fun k=>k=w.heap.size+1) w1).setAt rfl 2 (.slice (some ⟨w1.heap.size,0,none⟩) 1 1)).alloc (.cells #[.int .i64 ln] 3)) (fun k hk=>by omega)).no k5)
 have HK5:=hide (((HK1.out.setNew (by omega) 2 (.slice (some ⟨w1.heap.size,0,none⟩) 1 1)).alloc (.cells #[.int .i64 ln] 3)).then k5)
 have hlt5:w1.heap.size<w5.heap.size:=lt_of_blk HL5.out
 have HO5:=hide hown5
 obtain⟨ad5,cap5,rfl⟩:=own_shape hown5
 obtain⟨hc05,hf05⟩:=cells_of HB05.out
 obtain⟨hc15,hf15⟩:=cells_of HB15.out
 clear hown5 hgrow5 hc0 hc1 hf0 hf1
 go_wp2
 refine bodyPost_ret (v:= .tuple #[nodeV 12 0 (.slice (some ⟨w1.heap.size,0,none⟩) 1 1) nilS nilS ll.length,.slice ad5 ll.length cap5,.slice ad1 ll.length cap1,.bool true]) (by simp[results,Tryz.results192,go_sem,hc05]) rfl ?_
 have kf:=fin7o w5 (w.heap.size+1) 5 w.heap.size (.int .i64 (ll.length:Nat)) (.int .u8 12) (.int .u64 0) (.slice (some ⟨w1.heap.size,0,none⟩) 1 1) nilS nilS (.int .i64 (ll.length:Nat))
 have kall:Kp (one pb) w _:=HK5.out.comp kf (fun _ _ h=>h) (fun k hk h=>by unfold two at h;omega)
 have htk:=kf.own HO5.out (fun b hb h=>by have :=own_new HO5.out b hb;unfold two at h;omega)
 refine⟨⟨.slice (some ⟨w1.heap.size,0,none⟩) 1 1,.slice ad5 ll.length cap5,.slice ad1 ll.length cap1,rfl,⟨fun b hb=>by simp only[Value.ownBlock,Option.some.injEq]at hb;omega,IntsAt.blk (kf.blk HL5.out (by unfold two;omega)),fun b hb=>by simp only[Value.ownBlock,Option.some.injEq]at hb;omega⟩,heldOwn hpb htk ?_ (by omega),heldOld HSL.out HBL.out (HK0.out.trans kall)⟩,HS5.out.keep kf (fun k hk=>by unfold two;omega),kall⟩
 have :=RowAt.own htk
 simpa[BytesAt]using this

theorem instr_13 {w0 w:World} {pb:Nat} {E:PE} {G:Env} {labels:List (List UInt8)} {stack:List UInt8} {lv sv:Value} {σ:PS} (h:Read0 w0 pb E G labels stack lv sv) (hst:PSt w pb E σ) (k0:Kp (one pb) w0 w) (at_:Int):
  Calls Tryz.prog 192 #[ptr pb,.int .u8 13,.int .i64 at_,sv,lv] w fun r w'=>Told w0 w w' pb 13 (instrM E G labels stack 13 σ).1 r∧PSt w' pb E (instrM E G labels stack 13 σ).2∧Kp (one pb) w w':=by
 have hM:instrM E G labels stack 13 σ=({n:=0,labels:=[((labelM E labels σ).1.1:Int)],value:=(labelM E labels σ).1.2.length,take:=(labelM E labels σ).1.2++[127],put:=(labelM E labels σ).1.2,ok:=true},(labelM E labels σ).2):=rfl
 rw[hM]
 clear hM
 have H:=hide h
 have HST:=hide hst
 have HK0:=hide k0
 have hpb:=hst.lt
 clear h hst k0
 have H3:=hide (three w (.cells #[.int .u8 0,.int .u64 0,nilS,nilS,nilS,.int .i64 0] 309) (.cells #[.int .u8 13,.int .u64 0,nilS,nilS,nilS,.int .i64 0] 309) (.cells #[.int .u8 127] 5))
 have hu:=fun(W:World) (hW:PSt W pb E σ) (k:Kp (one pb) w W)=>label_any hW H.out.lab (HK0.out.trans k) H.out.labL
 have hll:=label_len (E:=E) (σ:=σ) H.out.labLL
 generalize(labelM E labels σ).1.1=ln at *
 generalize(labelM E labels σ).1.2=ll at *
 generalize(labelM E labels σ).2=σ1 at *
 have Hu:=hide hu
 obtain⟨i1,hi1,hy0,hy1,hy2⟩:=info_u8'
 clear hu
 go_enter Tryz.func192,Tryz.ntmps192
 go_wp2_with fail
 refine(Hu.out _ (HST.out.no (by exact H3.out.2)) (by exact H3.out.2.any)).mono ?_
 rintro e w1 ⟨lv1,rfl,hbl,hsl,h1,k1⟩
 obtain⟨ad1,cap1,rfl,hc1'⟩:=hbl.shape
 have H1:=hide h1
 have HBL:=hide hbl
 have HSL:=hide hsl
 have HK1:=hide (H3.out.2.any.trans k1)
 have HB0:=hide (k1.blk H3.out.1.1 (show ¬one pb w.heap.size by unfold one;omega))
 have HB1:=hide (k1.blk H3.out.1.2.1 (show ¬one pb (w.heap.size+1)by unfold one;omega))
 obtain⟨hc0,hf0⟩:=cells_of HB0.out
 obtain⟨hc1,hf1⟩:=cells_of HB1.out
 have hlt1:w.heap.size+1<w1.heap.size:=lt_of_blk HB1.out
 have hlt0:w.heap.size<w1.heap.size:=by omega
 clear h1 hbl hsl
 go_wp2_with(at_builtin;refine wpList_append_row _ rfl _ _ 25 rfl (w1.heap.size+1) 5 i1 (.int .u8 0) 1 1 Tryz.underlying25 hi1 hy0 hy1 hy2 rfl (by decide) _ _ _ rfl (World.ownsRow_nil _ _ _ _) _ ll.length (byteVals ll) rfl ?c2 (bytes_oneCell _) ?c3 ?c4 ?c5 ?_)
 case c2=>exact HBL.out.one HSL.out (HK0.out.trans ((HK1.out.setNew (by omega) _ _).alloc _))
 case c3=>unfold maxLen;omega
 case c4=>omega
 case c5=>simp
 intro v5 w5 hown5 hgrow5
 have k5:Kp no ((w1.setCell ⟨w.heap.size+1,2,none⟩ (.slice (some ⟨w1.heap.size,0,none⟩) 1 1)).alloc (.cells #[.int .i64 ln] 3)) w5:=(Kp.refl no _).grown hgrow5 (fun k hk=>by cases hk)
 have HB15:=hide (k5.blk (heap_alloc_old (heap_setCell HB1.out (.slice (some ⟨w1.heap.size,0,none⟩) 1 1))) (fun h=>h))
 have HB05:=hide (k5.blk (heap_alloc_old (heap_setCell_ne (by omega) (.slice (some ⟨w1.heap.size,0,none⟩) 1 1) HB0.out)) (fun h=>h))
 have HL5:=hide (k5.blk (k:=w1.heap.size) (heap_alloc_at (.cells #[.int .i64 ln] 3) (by simp[World.setCell])) (fun h=>h))
 have HS5:=hide ((H1.out.keep (((Kp.refl (fun k=>k=w.heap.size+1) w1).setAt rfl 2 (.slice (some ⟨w1.heap.size,0,none⟩) 1 1)).alloc (.cells #[.int .i64 ln] 3)) (fun k hk=>by omega)).no k5)
 have HK5:=hide (((HK1.out.setNew (by omega) 2 (.slice (some ⟨w1.heap.size,0,none⟩) 1 1)).alloc (.cells #[.int .i64 ln] 3)).then k5)
 have hlt5:w1.heap.size<w5.heap.size:=lt_of_blk HL5.out
 have HO5:=hide hown5
 obtain⟨ad5,cap5,rfl⟩:=own_shape hown5
 obtain⟨hc05,hf05⟩:=cells_of HB05.out
 obtain⟨hc15,hf15⟩:=cells_of HB15.out
 clear hown5 hgrow5 hc0 hc1 hf0 hf1
 go_wp2_with(at_builtin;refine wpList_append_row _ rfl _ _ 25 rfl (w1.heap.size+1) 5 i1 (.int .u8 0) 1 1 Tryz.underlying25 hi1 hy0 hy1 hy2 rfl (by decide) _ _ _ rfl (HO5.out.alloc _) _ 1 [.int .u8 127] rfl (RowAt.new _ _ _) (one_oneCell rfl) ?c3 ?c4 ?c5 ?_)
 case c3=>unfold maxLen;omega
 case c4=>omega
 case c5=>simp;omega
 intro v7 w7 hown7 hgrow7
 have HO7:=hide hown7
 obtain⟨ad7,cap7,rfl⟩:=own_shape hown7
 have kw:Kp (fun k=>w1.heap.size+1≤k) w5 w7:=((Kp.refl (fun k=>w1.heap.size+1≤k) w5).alloc _).grown hgrow7 (fun k hk=> .inl (own_new HO5.out k hk))
 obtain⟨hc07,hf07⟩:=cells_of (kw.blk HB05.out (by omega))
 obtain⟨hc17,hf17⟩:=cells_of (kw.blk HB15.out (by omega))
 have HS7:=hide (HS5.out.keep kw (fun k hk=>by omega))
 have HK7:=hide (HK5.out.comp kw (fun _ _ h=>h) (fun k hk h=>by omega))
 clear hown7 hgrow7 hc05 hc15 hf05 hf15
 go_wp2
 refine bodyPost_ret (v:= .tuple #[nodeV 13 0 (.slice (some ⟨w1.heap.size,0,none⟩) 1 1) nilS nilS ll.length,.slice ad7 (ll.length+1) cap7,.slice ad1 ll.length cap1,.bool true]) (by simp[results,Tryz.results192,go_sem,hc07]) rfl ?_
 have kf:=fin7o w7 (w.heap.size+1) 5 w.heap.size (.int .i64 (ll.length:Nat)) (.int .u8 13) (.int .u64 0) (.slice (some ⟨w1.heap.size,0,none⟩) 1 1) nilS nilS (.int .i64 (ll.length:Nat))
 have kall:Kp (one pb) w _:=HK7.out.comp kf (fun _ _ h=>h) (fun k hk h=>by unfold two at h;omega)
 have htk:=kf.own HO7.out (fun b hb h=>by have :=own_new HO7.out b hb;unfold two at h;omega)
 refine⟨⟨.slice (some ⟨w1.heap.size,0,none⟩) 1 1,.slice ad7 (ll.length+1) cap7,.slice ad1 ll.length cap1,rfl,⟨fun b hb=>by simp only[Value.ownBlock,Option.some.injEq]at hb;omega,IntsAt.blk (kf.blk (kw.blk HL5.out (by omega)) (by unfold two;omega)),fun b hb=>by simp only[Value.ownBlock,Option.some.injEq]at hb;omega⟩,heldOwn hpb htk ?_ (by omega),heldOld HSL.out HBL.out (HK0.out.trans kall)⟩,HS7.out.keep kf (fun k hk=>by unfold two;omega),kall⟩
 have :=RowAt.own htk
 simpa[BytesAt]using this

theorem instr_14 {w0 w:World} {pb:Nat} {E:PE} {G:Env} {labels:List (List UInt8)} {stack:List UInt8} {lv sv:Value} {σ:PS} (h:Read0 w0 pb E G labels stack lv sv) (hst:PSt w pb E σ) (k0:Kp (one pb) w0 w) (at_:Int):
  Calls Tryz.prog 192 #[ptr pb,.int .u8 14,.int .i64 at_,sv,lv] w fun r w'=>Told w0 w w' pb 14 (instrM E G labels stack 14 σ).1 r∧PSt w' pb E (instrM E G labels stack 14 σ).2∧Kp (one pb) w w':=by
 have hM:instrM E G labels stack 14 σ=tableM E labels σ:=rfl
 rw[hM]
 clear hM
 have H:=hide h
 have HST:=hide hst
 have HK0:=hide k0
 have hpb:=hst.lt
 clear h hst k0
 have H3:=hide (three w (.cells #[.int .u8 0,.int .u64 0,nilS,nilS,nilS,.int .i64 0] 309) (.cells #[.int .u8 14,.int .u64 0,nilS,nilS,nilS,.int .i64 0] 309) (.cells #[.int .u8 127] 5))
 have hu:=fun(W:World) (hW:PSt W pb E σ) (k:Kp (one pb) w W)=>table_any hW H.out.lab (HK0.out.trans k) H.out.labL H.out.labLL
 generalize(tableM E labels σ)=R at *
 have Hu:=hide hu
 clear hu
 go_enter Tryz.func192,Tryz.ntmps192
 go_wp2_with fail
 refine(Hu.out _ (HST.out.no (by exact H3.out.2)) (by exact H3.out.2.any)).mono ?_
 rintro e w1 ⟨⟨lab,tv,pv,rfl,⟨hl1,hl2,hl3⟩,⟨ht1,ht2,ht3⟩,⟨hp1,hp2,hp3⟩⟩,h1,k1⟩
 obtain⟨adl,capl,rfl,_⟩:=hl2.shape
 obtain⟨adt,capt,rfl,_⟩:=ht2.shape
 obtain⟨adp,capp,rfl,_⟩:=hp2.shape
 have H1:=hide h1
 have HL:Hid (HeldI _ _ _ _ _):=hide (And.intro hl1 (And.intro hl2 hl3))
 have HT:Hid (Held _ _ _ _ _ _):=hide (And.intro ht1 (And.intro ht2 ht3))
 have HP:Hid (Held _ _ _ _ _ _):=hide (And.intro hp1 (And.intro hp2 hp3))
 have HB0:=hide (k1.blk H3.out.1.1 (show ¬one pb w.heap.size by unfold one;omega))
 obtain⟨hc0,hf0⟩:=cells_of HB0.out
 clear h1 hl1 hl2 hl3 ht1 ht2 ht3 hp1 hp2 hp3
 go_wp2
 refine bodyPost_ret (v:= .tuple #[nodeV 14 R.1.n (.slice adl R.1.labels.length capl) nilS nilS R.1.value,.slice adt R.1.take.length capt,.slice adp R.1.put.length capp,.bool R.1.ok]) (by simp[results,Tryz.results192,go_sem,hc0]) rfl ?_
 have kf:=fin6 w1 (w.heap.size+1) w.heap.size (.int .u8 14) (.int .u64 R.1.n) (.slice adl R.1.labels.length capl) nilS nilS (.int .i64 R.1.value)
 have kall:Kp (one pb) w _:=(H3.out.2.any.trans k1).comp kf (fun _ _ h=>h) (fun k hk h=>by unfold two at h;omega)
 exact⟨⟨_,_,_,rfl,HL.out.on kf (by simp;omega) (fun b hb=>by unfold two at hb;simp;omega),HT.out.on HK0.out kf (by simp;omega) (fun b hb=>by unfold two at hb;simp;omega),HP.out.on HK0.out kf (by simp;omega) (fun b hb=>by unfold two at hb;simp;omega)⟩,H1.out.keep kf (fun k hk=>by unfold two;omega),kall⟩

theorem instr_15 {w0 w:World} {pb:Nat} {E:PE} {G:Env} {labels:List (List UInt8)} {stack:List UInt8} {lv sv:Value} {σ:PS} (h:Read0 w0 pb E G labels stack lv sv) (hst:PSt w pb E σ) (k0:Kp (one pb) w0 w) (at_:Int):
  Calls Tryz.prog 192 #[ptr pb,.int .u8 15,.int .i64 at_,sv,lv] w fun r w'=>Told w0 w w' pb 15 (instrM E G labels stack 15 σ).1 r∧PSt w' pb E (instrM E G labels stack 15 σ).2∧Kp (one pb) w w':=by
 have hM:instrM E G labels stack 15 σ=({n:=0,labels:=[(labels.length:Int) -1],value:=(labels.getD 0 []).length,take:=labels.getD 0 [],put:=labels.getD 0 [],ok:=true},σ):=rfl
 rw[hM]
 clear hM
 have H:=hide h
 have HST:=hide hst
 have HK0:=hide k0
 have hpb:=hst.lt
 clear h hst k0
 have H3:=hide (three w (.cells #[.int .u8 0,.int .u64 0,nilS,nilS,nilS,.int .i64 0] 309) (.cells #[.int .u8 15,.int .u64 0,nilS,nilS,nilS,.int .i64 0] 309) (.cells #[.int .u8 127] 5))
 obtain⟨cells,hrow,hcells⟩:=H.out.lab.row
 have hg0:labels[0]? =some (labels.getD 0 []):=by simp[List.getD,List.getElem?_eq_getElem H.out.lab0]
 obtain⟨lv0,hcl,hbl,hsl⟩:=hcells 0 _ hg0
 obtain⟨a,o,cap,rfl,hcap,hcell0⟩:=hrow.get hcl
 have halt0:=lt_of_cell hcell0
 have hcell:=HK0.out.cell hcell0 (fun e=>H.out.lab.sep a rfl e)
 have halt:a<w.heap.size:=by have :=HK0.out.size;omega
 simp only[Nat.add_zero]at hcell
 obtain⟨ad1,cap1,rfl,_⟩:=hbl.shape
 have hlen:=H.out.lab0
 have hlen2:=H.out.labL
 have hll:(labels.getD 0 []).length≤1000:=H.out.labLL _ (List.mem_of_getElem? hg0)
 generalize labels.getD 0 []=l0 at *
 have HBL:=hide hbl
 have HSL:=hide hsl
 clear hrow hcells hg0 hcl hcell0 hbl hsl
 have hs3:=fun a0 a1 a2 o=>three_cell halt a0 a1 a2 o
 have hs4:=fun a0 a1 a2 a3 o=>four_cell halt a0 a1 a2 a3 o
 go_enter Tryz.func192,Tryz.ntmps192
 go_wp2
 go_region
 go_wp2
 refine bodyPost_ret (v:= .tuple #[nodeV 15 0 (.slice (some ⟨w.heap.size+1+1+1,0,none⟩) 1 1) nilS nilS l0.length,.slice ad1 l0.length cap1,.slice ad1 l0.length cap1,.bool true]) (by simp[results,Tryz.results192,go_sem]) rfl ?_
 have k4: ∀x0 x1 x2 x3,Kp no w ((((w.alloc x0).alloc x1).alloc x2).alloc x3).drew:=fun x0 x1 x2 x3=>(((((Kp.refl no w).alloc _).alloc _).alloc _).alloc _).drew
 exact⟨⟨_,_,_,rfl,⟨fun b hb=>by simp only[Value.ownBlock,Option.some.injEq]at hb;omega,IntsAt.blk (heap_alloc_at _ (by simp)),fun b hb=>by simp only[Value.ownBlock,Option.some.injEq]at hb;omega⟩,heldOld HSL.out HBL.out (HK0.out.trans (k4 _ _ _ _).any),heldOld HSL.out HBL.out (HK0.out.trans (k4 _ _ _ _).any)⟩,HST.out.no (k4 _ _ _ _),(k4 _ _ _ _).any⟩

theorem instr_16 {w0 w:World} {pb:Nat} {E:PE} {G:Env} {labels:List (List UInt8)} {stack:List UInt8} {lv sv:Value} {σ:PS} (h:Read0 w0 pb E G labels stack lv sv) (hst:PSt w pb E σ) (k0:Kp (one pb) w0 w) (at_:Int):
  Calls Tryz.prog 192 #[ptr pb,.int .u8 16,.int .i64 at_,sv,lv] w fun r w'=>Told w0 w w' pb 16 (instrM E G labels stack 16 σ).1 r∧PSt w' pb E (instrM E G labels stack 16 σ).2∧Kp (one pb) w w':=by
 have hM:instrM E G labels stack 16 σ=(if badM (uM E ((G.funcs.length:Int) -1) σ).2 then ({n:=0,labels:=[],value:=0,take:=[],put:=[],ok:=false},(uM E ((G.funcs.length:Int) -1) σ).2)else
  ({n:=(uM E ((G.funcs.length:Int) -1) σ).1,labels:=[],value:=0,take:=(G.funcs.getD (uM E ((G.funcs.length:Int) -1) σ).1 ([],[])).1,put:=(G.funcs.getD (uM E ((G.funcs.length:Int) -1) σ).1 ([],[])).2,ok:=true},(uM E ((G.funcs.length:Int) -1) σ).2)):=rfl
 generalize instrM E G labels stack 16 σ=R at *
 have H:=hide h
 have HST:=hide hst
 have HK0:=hide k0
 have hpb:=hst.lt
 clear h hst k0
 have H3:=hide (three w (.cells #[.int .u8 0,.int .u64 0,nilS,nilS,nilS,.int .i64 0] 309) (.cells #[.int .u8 16,.int .u64 0,nilS,nilS,nilS,.int .i64 0] 309) (.cells #[.int .u8 127] 5))
 obtain⟨i,err,pl,hi,hb,-,-⟩:=HST.out.obj
 obtain⟨hc,-⟩:=cells_of hb
 have hle:=u_le E ((G.funcs.length:Int) -1) σ
 have hu:=fun(W:World) (hW:PSt W pb E σ)=>u_any hW ((G.funcs.length:Int) -1)
 have hL:=H.out.env.funL
 generalize(uM E ((G.funcs.length:Int) -1) σ).1=n at *
 generalize(uM E ((G.funcs.length:Int) -1) σ).2=σ1 at *
 have Hu:=hide hu
 have HM:=hide hM
 have Hle:=hide hle
 obtain⟨mb,tv,fv,gv,pages,hm,hmp,hmb0,hg,-⟩:=H.out.env.mod
 have hmb:=HK0.out.blk hmb0 hmp
 have hmlt:=lt_of_blk hmb
 obtain⟨cells,hrow,hcells⟩:=hg.row
 obtain⟨ad,cap,rfl,hcap⟩:=hrow.shape
 obtain⟨hcm,-⟩:=cells_of hmb
 rw[hm]at hc
 have Hm:=hide hm
 have HR:=hide hrow
 have HC:=hide hcells
 have HMB:=hide hmb
 have HGS:=hide hg.sep
 clear hu hb hM hle hm hrow hcells hmb hg hmb0
 have hsx:=fun a0 a1 a2 o=>three_cell hpb a0 a1 a2 o
 have hsm:=fun a0 a1 a2 o=>three_cell hmlt a0 a1 a2 o
 go_enter Tryz.func192,Tryz.ntmps192
 go_wp2_with fail
 refine(Hu.out _ (HST.out.no (by exact H3.out.2))).mono ?_
 rintro e w1 ⟨rfl,h1,k1⟩
 have H1:=hide h1
 have HB0:=hide (k1.blk H3.out.1.1 (show ¬one pb w.heap.size by unfold one;omega))
 have HB1:=hide (k1.blk H3.out.1.2.1 (show ¬one pb (w.heap.size+1)by unfold one;omega))
 obtain⟨hc0,hf0⟩:=cells_of HB0.out
 obtain⟨hc1,hf1⟩:=cells_of HB1.out
 obtain⟨i1,err1,pl1,hi1,hb1,-,-⟩:=h1.obj
 obtain⟨hcp,-⟩:=cells_of hb1
 rw[Hm.out]at hcp
 have k01:Kp (one pb) w w1:=H3.out.2.any.trans k1
 obtain⟨hcm1,-⟩:=cells_of (k01.blk HMB.out hmp)
 clear h1 hb1 hc hsx hsm hcm
 have hM:=HM.out
 by_cases hbd:badM σ1=true
 ·rw[if_pos hbd]at hM
  have HM1:=hide hM
  clear hM HM
  go_wp2_with fail
  refine(bad_any H1.out).mono ?_
  rintro e w2 ⟨rfl,rfl⟩
  go_wp2
  refine bodyPost_ret (v:= .tuple #[nodeV 16 0 nilS nilS nilS 0,nilS,nilS,.bool false]) (by simp[results,Tryz.results192,go_sem,hc0]) rfl ?_
  have kf:=fin6 w2 (w.heap.size+1) w.heap.size (.int .u8 16) (.int .u64 0) nilS nilS nilS (.int .i64 0)
  rw[HM1.out]
  exact⟨⟨nilS,nilS,nilS,rfl,labNil _ _ _,heldNil _ _ _ _,heldNil _ _ _ _⟩,H1.out.keep kf (fun k hk=>by unfold two;omega),k01.comp kf (fun _ _ h=>h) (fun k hk h=>by unfold two at h;omega)⟩
 ·rw[if_neg hbd]at hM
  have HM1:=hide hM
  clear hM HM
  simp only[Bool.not_eq_true]at hbd
  have hn:=Hle.out hbd
  have hn1:n<G.funcs.length:=by omega
  have hgd:G.funcs[n]? =some (G.funcs.getD n ([],[])):=by simp[List.getD,List.getElem?_eq_getElem hn1]
  obtain⟨pv,rv,c1,c2,b1,s1,b2,s2⟩:=HC.out n _ hgd
  obtain⟨a0,o0,cap0,hv0,_,hcell0⟩:=HR.out.get c1
  cases hv0
  have halt:a0<w0.heap.size:=lt_of_cell hcell0
  have hr1:=HR.out.kp (HK0.out.trans k01) (fun b hb e=>HGS.out b hb e)
  obtain⟨a,o,cap',hv,_,hcell1⟩:=hr1.get c1
  obtain⟨a',o',cap'',hv',_,hcell2⟩:=hr1.get c2
  cases hv
  cases hv'
  rw[←Nat.add_assoc]at hcell2
  obtain⟨adp,capp,rfl,_⟩:=b1.shape
  obtain⟨adr,capr,rfl,_⟩:=b2.shape
  have hM:=HM1.out
  generalize G.funcs.getD n ([],[])=g at *
  have HM2:=hide hM
  have HB1':=hide b1
  have HB2':=hide b2
  have HS1':=hide s1
  have HS2':=hide s2
  have hsz0:=HK0.out.size
  have hane:a0≠w.heap.size:=by omega
  have hane1:a0≠w.heap.size+1:=by omega
  have hmne:mb≠w.heap.size:=by omega
  have hmne1:mb≠w.heap.size+1:=by omega
  have hpne:pb≠w.heap.size:=by omega
  have hpne1:pb≠w.heap.size+1:=by omega
  clear hM HM1 c1 c2 hgd hr1 hcell0 b1 b2 s1 s2
  go_wp2_with fail
  refine(bad_any H1.out).mono ?_
  rintro e w2 ⟨rfl,rfl⟩
  go_wp2
  go_region
  go_wp2
  refine bodyPost_ret (v:= .tuple #[nodeV 16 n nilS nilS nilS 0,.slice adp g.1.length capp,.slice adr g.2.length capr,.bool true]) (by simp[results,Tryz.results192,go_sem,hc0]) rfl ?_
  have kf:=(fin7 w2 (w.heap.size+1) w.heap.size (.int .u64 n) (.int .u8 16) (.int .u64 n) nilS nilS nilS (.int .i64 0)).drew
  have kall:Kp (one pb) w _:=k01.comp kf (fun _ _ h=>h) (fun k hk h=>by unfold two at h;omega)
  rw[HM2.out]
  exact⟨⟨nilS,_,_,rfl,labNil _ _ _,heldOld HS1'.out HB1'.out (HK0.out.trans kall),heldOld HS2'.out HB2'.out (HK0.out.trans kall)⟩,H1.out.keep kf (fun k hk=>by unfold two;omega),kall⟩

theorem instr_26 {w0 w:World} {pb:Nat} {E:PE} {G:Env} {labels:List (List UInt8)} {stack:List UInt8} {lv sv:Value} {σ:PS} (h:Read0 w0 pb E G labels stack lv sv) (hst:PSt w pb E σ) (k0:Kp (one pb) w0 w) (at_:Int):
  Calls Tryz.prog 192 #[ptr pb,.int .u8 26,.int .i64 at_,sv,lv] w fun r w'=>Told w0 w w' pb 26 (instrM E G labels stack 26 σ).1 r∧PSt w' pb E (instrM E G labels stack 26 σ).2∧Kp (one pb) w w':=by
 have hM:instrM E G labels stack 26 σ=(if stack=[]then ({n:=0,labels:=[],value:=0,take:=[],put:=[],ok:=false},σ)else ({n:=0,labels:=[],value:=0,take:=[stack.getD (stack.length -1) 0],put:=[],ok:=true},σ)):=rfl
 generalize instrM E G labels stack 26 σ=R at *
 have H:=hide h
 have HST:=hide hst
 have HK0:=hide k0
 have hpb:=hst.lt
 clear h hst k0
 have H3:=hide (three w (.cells #[.int .u8 0,.int .u64 0,nilS,nilS,nilS,.int .i64 0] 309) (.cells #[.int .u8 26,.int .u64 0,nilS,nilS,nilS,.int .i64 0] 309) (.cells #[.int .u8 127] 5))
 have hsb:=H.out.stk
 have hsl:=H.out.stkL
 have k3: ∀x0 x1 x2,Kp no w (((w.alloc x0).alloc x1).alloc x2):=fun x0 x1 x2=>(((Kp.refl no w).alloc _).alloc _).alloc _
 by_cases hs:stack=[]
 ·rw[if_pos hs]at hM
  have HM:=hide hM
  obtain⟨ad,cap,hv,_⟩:=hsb.shape
  rw[hs]at hv
  simp only[List.length_nil]at hv
  subst hv
  clear hM hsb
  go_enter Tryz.func192,Tryz.ntmps192
  go_wp2
  refine bodyPost_ret (v:= .tuple #[nodeV 26 0 nilS nilS nilS 0,nilS,nilS,.bool false]) (by simp[results,Tryz.results192,go_sem]) rfl ?_
  rw[HM.out]
  exact⟨⟨nilS,nilS,nilS,rfl,labNil _ _ _,heldNil _ _ _ _,heldNil _ _ _ _⟩,HST.out.no (k3 _ _ _),(k3 _ _ _).any⟩
 ·rw[if_neg hs]at hM
  have HM:=hide hM
  rcases hsb.cases with⟨-,hnil⟩|⟨a,o,cap,rfl,hcap,-⟩
  ·exact absurd hnil hs
  ·have hpos:0<stack.length:=List.length_pos_iff.2 hs
   have hz:((stack.length:Int)==0)=false:=by simp;omega
   have HSB:=hide hsb
   have hcn:cap≠stack.length -1:=by omega
   have hq1:stack.length - (stack.length -1)=1:=by omega
   have HB0:=hide (HSB.out.at (stack.length -1) (by omega))
   clear hM hsb hs
   go_enter Tryz.func192,Tryz.ntmps192
   go_wp2
   go_region
   go_wp2
   refine bodyPost_ret (v:= .tuple #[nodeV 26 0 nilS nilS nilS 0,.slice (some ⟨a,o+(stack.length -1),none⟩) 1 (cap - (stack.length -1)),nilS,.bool true]) (by simp[results,Tryz.results192,go_sem]) rfl ?_
   have k3d: ∀x0 x1 x2,Kp no w (((w.alloc x0).alloc x1).alloc x2).drew:=fun x0 x1 x2=>(k3 x0 x1 x2).drew
   rw[HM.out]
   exact⟨⟨nilS,_,nilS,rfl,labNil _ _ _,heldOld (fun b hb=>H.out.stkS b hb) HB0.out (HK0.out.trans (k3d _ _ _).any),heldNil _ _ _ _⟩,HST.out.no (k3d _ _ _),(k3d _ _ _).any⟩

theorem instr_27 {w0 w:World} {pb:Nat} {E:PE} {G:Env} {labels:List (List UInt8)} {stack:List UInt8} {lv sv:Value} {σ:PS} (h:Read0 w0 pb E G labels stack lv sv) (hst:PSt w pb E σ) (k0:Kp (one pb) w0 w) (at_:Int):
  Calls Tryz.prog 192 #[ptr pb,.int .u8 27,.int .i64 at_,sv,lv] w fun r w'=>Told w0 w w' pb 27 (instrM E G labels stack 27 σ).1 r∧PSt w' pb E (instrM E G labels stack 27 σ).2∧Kp (one pb) w w':=by
 have hM:instrM E G labels stack 27 σ=(if stack.length<3 then ({n:=0,labels:=[],value:=0,take:=[],put:=[],ok:=false},σ)else ({n:=0,labels:=[],value:=0,take:=[stack.getD (stack.length -2) 0,stack.getD (stack.length -2) 0,127],put:=[stack.getD (stack.length -2) 0],ok:=true},σ)):=rfl
 generalize instrM E G labels stack 27 σ=R at *
 have H:=hide h
 have HST:=hide hst
 have HK0:=hide k0
 have hpb:=hst.lt
 clear h hst k0
 have H3:=hide (three w (.cells #[.int .u8 0,.int .u64 0,nilS,nilS,nilS,.int .i64 0] 309) (.cells #[.int .u8 27,.int .u64 0,nilS,nilS,nilS,.int .i64 0] 309) (.cells #[.int .u8 127] 5))
 have hsb:=H.out.stk
 have hsl:=H.out.stkL
 have k3: ∀x0 x1 x2,Kp no w (((w.alloc x0).alloc x1).alloc x2):=fun x0 x1 x2=>(((Kp.refl no w).alloc _).alloc _).alloc _
 by_cases hs:stack.length<3
 ·rw[if_pos hs]at hM
  have HM:=hide hM
  obtain⟨ad,cap,rfl,_⟩:=hsb.shape
  clear hM hsb
  go_enter Tryz.func192,Tryz.ntmps192
  go_wp2
  refine bodyPost_ret (v:= .tuple #[nodeV 27 0 nilS nilS nilS 0,nilS,nilS,.bool false]) (by simp[results,Tryz.results192,go_sem]) rfl ?_
  rw[HM.out]
  exact⟨⟨nilS,nilS,nilS,rfl,labNil _ _ _,heldNil _ _ _ _,heldNil _ _ _ _⟩,HST.out.no (k3 _ _ _),(k3 _ _ _).any⟩
 ·rw[if_neg hs]at hM
  have HM:=hide hM
  obtain⟨a,o,cap,rfl,hcap,hcell0⟩:=hsb.get (show stack.length -2<stack.length by omega)
  have halt0:=lt_of_cell hcell0
  have hcell:=HK0.out.cell hcell0 (fun e=>H.out.stkS a rfl e)
  have halt:a<w.heap.size:=by have :=HK0.out.size;omega
  have hM2:=HM.out
  generalize stack.getD (stack.length -2) 0=t at *
  have HM2:=hide hM2
  have hs3:=fun a0 a1 a2 o=>three_cell halt a0 a1 a2 o
  clear hM hsb hM2 HM hcell0
  go_enter Tryz.func192,Tryz.ntmps192
  go_wp2
  refine bodyPost_ret (v:= .tuple #[nodeV 27 0 nilS nilS nilS 0,.slice (some ⟨w.heap.size+1+1+1,0,none⟩) 3 3,.slice (some ⟨w.heap.size+1+1+1+1,0,none⟩) 1 1,.bool true]) (by simp[results,Tryz.results192,go_sem]) rfl ?_
  have k5: ∀x0 x1 x2 x3 x4,Kp no w (((((w.alloc x0).alloc x1).alloc x2).alloc x3).alloc x4):=fun x0 x1 x2 x3 x4=>((k3 x0 x1 x2).alloc _).alloc _
  rw[HM2.out]
  exact⟨⟨nilS,_,_,rfl,labNil _ _ _,heldNew hpb (BytesAt.blk (l:=[t,t,127]) (heap_alloc_old (heap_alloc_at _ (by simp)))) (by omega),heldNew hpb (BytesAt.blk (l:=[t]) (heap_alloc_at _ (by simp))) (by omega)⟩,HST.out.no (k5 _ _ _ _ _),(k5 _ _ _ _ _).any⟩

theorem instr_plain {w0 w:World} {pb:Nat} {E:PE} {G:Env} {labels:List (List UInt8)} {stack:List UInt8} {lv sv:Value} {σ:PS} (h:Read0 w0 pb E G labels stack lv sv) (hst:PSt w pb E σ) (k0:Kp (one pb) w0 w) (at_:Int) (op:Nat) (hop:plainOp op):
  Calls Tryz.prog 192 #[ptr pb,.int .u8 op,.int .i64 at_,sv,lv] w fun r w'=>Told w0 w w' pb op (instrM E G labels stack op σ).1 r∧PSt w' pb E (instrM E G labels stack op σ).2∧Kp (one pb) w w':=by
 have hM:instrM E G labels stack op σ=plainM E G op σ:=by
  unfold plainOp at hop
  unfold instrM
  rw[if_neg (by omega),if_neg (by omega),if_neg (by omega),if_neg (by omega),if_neg (by omega),if_neg (by omega),if_neg (by omega),if_neg (by omega)]
 rw[hM]
 clear hM
 have e0:((op:Int)==0)=false:=beq_eq_false_iff_ne.2 (by unfold plainOp at hop;omega)
 have e1:((op:Int)==1)=false:=beq_eq_false_iff_ne.2 (by unfold plainOp at hop;omega)
 have e2:((op:Int)==2)=false:=beq_eq_false_iff_ne.2 (by unfold plainOp at hop;omega)
 have e3:((op:Int)==3)=false:=beq_eq_false_iff_ne.2 (by unfold plainOp at hop;omega)
 have e4:((op:Int)==4)=false:=beq_eq_false_iff_ne.2 (by unfold plainOp at hop;omega)
 have e12:((op:Int)==12)=false:=beq_eq_false_iff_ne.2 (by unfold plainOp at hop;omega)
 have e13:((op:Int)==13)=false:=beq_eq_false_iff_ne.2 (by unfold plainOp at hop;omega)
 have e14:((op:Int)==14)=false:=beq_eq_false_iff_ne.2 (by unfold plainOp at hop;omega)
 have e15:((op:Int)==15)=false:=beq_eq_false_iff_ne.2 (by unfold plainOp at hop;omega)
 have e16:((op:Int)==16)=false:=beq_eq_false_iff_ne.2 (by unfold plainOp at hop;omega)
 have e26:((op:Int)==26)=false:=beq_eq_false_iff_ne.2 (by unfold plainOp at hop;omega)
 have e27:((op:Int)==27)=false:=beq_eq_false_iff_ne.2 (by unfold plainOp at hop;omega)
 have H:=hide h
 have HST:=hide hst
 have HK0:=hide k0
 have hpb:=hst.lt
 clear h hst k0
 have H3:=hide (three w (.cells #[.int .u8 0,.int .u64 0,nilS,nilS,nilS,.int .i64 0] 309) (.cells #[.int .u8 op,.int .u64 0,nilS,nilS,nilS,.int .i64 0] 309) (.cells #[.int .u8 127] 5))
 have hu:=fun(W:World) (hW:PSt W pb E σ) (k:Kp (one pb) w W)=>plain_any hW H.out.env (HK0.out.trans k) at_ op hop
 generalize(plainM E G op σ)=R at *
 have Hu:=hide hu
 clear hu
 go_enter Tryz.func192,Tryz.ntmps192
 go_wp2_with fail
 refine(Hu.out _ (HST.out.no (by exact H3.out.2)) (by exact H3.out.2.any)).mono ?_
 rintro e w1 ⟨⟨lab,tv,pv,rfl,⟨hl1,hl2,hl3⟩,⟨ht1,ht2,ht3⟩,⟨hp1,hp2,hp3⟩⟩,h1,k1⟩
 obtain⟨adl,capl,rfl,_⟩:=hl2.shape
 obtain⟨adt,capt,rfl,_⟩:=ht2.shape
 obtain⟨adp,capp,rfl,_⟩:=hp2.shape
 have H1:=hide h1
 have HL:Hid (HeldI _ _ _ _ _):=hide (And.intro hl1 (And.intro hl2 hl3))
 have HT:Hid (Held _ _ _ _ _ _):=hide (And.intro ht1 (And.intro ht2 ht3))
 have HP:Hid (Held _ _ _ _ _ _):=hide (And.intro hp1 (And.intro hp2 hp3))
 have HB0:=hide (k1.blk H3.out.1.1 (show ¬one pb w.heap.size by unfold one;omega))
 obtain⟨hc0,hf0⟩:=cells_of HB0.out
 clear h1 hl1 hl2 hl3 ht1 ht2 ht3 hp1 hp2 hp3
 go_wp2
 refine bodyPost_ret (v:= .tuple #[nodeV op R.1.n (.slice adl R.1.labels.length capl) nilS nilS R.1.value,.slice adt R.1.take.length capt,.slice adp R.1.put.length capp,.bool R.1.ok]) (by simp[results,Tryz.results192,go_sem,hc0]) rfl ?_
 have kf:=fin6 w1 (w.heap.size+1) w.heap.size (.int .u8 op) (.int .u64 R.1.n) (.slice adl R.1.labels.length capl) nilS nilS (.int .i64 R.1.value)
 have kall:Kp (one pb) w _:=(H3.out.2.any.trans k1).comp kf (fun _ _ h=>h) (fun k hk h=>by unfold two at h;omega)
 exact⟨⟨_,_,_,rfl,HL.out.on kf (by simp;omega) (fun b hb=>by unfold two at hb;simp;omega),HT.out.on HK0.out kf (by simp;omega) (fun b hb=>by unfold two at hb;simp;omega),HP.out.on HK0.out kf (by simp;omega) (fun b hb=>by unfold two at hb;simp;omega)⟩,H1.out.keep kf (fun k hk=>by unfold two;omega),kall⟩

def instrOp (op:Nat):Prop:=op≤4∨(12≤op∧op≤16)∨op=26∨op=27∨plainOp op

theorem instr_any {w0 w:World} {pb:Nat} {E:PE} {G:Env} {labels:List (List UInt8)} {stack:List UInt8} {lv sv:Value} {σ:PS} (h:Read0 w0 pb E G labels stack lv sv) (hst:PSt w pb E σ) (k0:Kp (one pb) w0 w) (at_:Int) (op:Nat) (hop:instrOp op):
  Calls Tryz.prog 192 #[ptr pb,.int .u8 op,.int .i64 at_,sv,lv] w fun r w'=>Told w0 w w' pb op (instrM E G labels stack op σ).1 r∧PSt w' pb E (instrM E G labels stack op σ).2∧Kp (one pb) w w':=by
 have hd:op=0∨op=1∨op=2∨op=3∨op=4∨op=12∨op=13∨op=14∨op=15∨op=16∨op=26∨op=27∨plainOp op:=by
  by_cases hp:plainOp op
  ·simp only[hp,or_true]
  ·unfold instrOp at hop
   simp only[hp,or_false]at hop⊢
   omega
 clear hop
 rcases hd with rfl |rfl |rfl |rfl |rfl |rfl |rfl |rfl |rfl |rfl |rfl |rfl |hp
 ·exact instr_0 h hst k0 at_
 ·exact instr_1 h hst k0 at_
 ·exact instr_2 h hst k0 at_
 ·exact instr_3 h hst k0 at_
 ·exact instr_4 h hst k0 at_
 ·exact instr_12 h hst k0 at_
 ·exact instr_13 h hst k0 at_
 ·exact instr_14 h hst k0 at_
 ·exact instr_15 h hst k0 at_
 ·exact instr_16 h hst k0 at_
 ·exact instr_26 h hst k0 at_
 ·exact instr_27 h hst k0 at_
 ·exact instr_plain h hst k0 at_ op hp

end Go.Proofs.YtdeplgkhmebalaaGreatDoor.Rf
