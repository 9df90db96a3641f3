/- The program's look at a body: its smallest functions. -/
import Derived.Test.YtdeplgkhmebalaaGreatDoorP14
import Derived.Deep.RegionLaw

set_option linter.unusedSimpArgs false
set_option linter.unusedVariables false
set_option maxHeartbeats 1000000
set_option maxRecDepth 100000
namespace Go.Proofs.YtdeplgkhmebalaaGreatDoor
open Go.RowKit

section
variable{E:Env} {g:Nat} {w:World} {s:Bd}

theorem here_any (h:BSt E g w s) (_hc:s.code.length≤1000000):Calls Tryz.prog 278 #[ptrTo E.bb] w fun r w'=>r= .returned (.int .i64 s.code.length)∧Kp no w w':=by
 obtain⟨role,sv,cv,kc,bs,h⟩:=h
 obtain⟨hb,-⟩:=cells_of h.body
 obtain⟨hm,-⟩:=cells_of h.mod
 obtain⟨ad,cap,rfl⟩:=own_shape h.code
 clear h
 go_enter Tryz.func278,Tryz.ntmps278
 go_wp2
 go_ret
 exact⟨rfl,Kp.refl _ _⟩

theorem wrong_any (h:BSt E g w s):Calls Tryz.prog 211 #[ptrTo E.bb] w fun r w'=>(∃fv,r= .returned fv∧FaultAt w w' fv (3,s.pos))∧Kp no w w':=by
 obtain⟨role,sv,cv,kc,bs,h⟩:=h
 obtain⟨hb,-⟩:=cells_of h.body
 clear h
 go_enter Tryz.func211,Tryz.ntmps211
 go_wp2
 go_ret
 exact⟨⟨_,rfl,⟨w.heap.size,rfl,Nat.le_refl _,heap_alloc_new _ _⟩⟩,(Kp.refl _ _).alloc _⟩

theorem inner_any' (h:BSt E g w s) (hc:s.blocks≠[]) (hbl:s.blocks.length≤1000):Calls Tryz.prog 279 #[ptrTo E.bb] w fun r w'=>r= .returned (.pointer (some ⟨g,(s.blocks.length -1)*5,none⟩))∧Kp no w w':=by
 obtain⟨role,sv,cv,kc,bs,h⟩:=h
 obtain⟨hb,-⟩:=cells_of h.body
 have hl:0<s.blocks.length:=List.length_pos_iff.2 hc
 clear h
 go_enter Tryz.func279,Tryz.ntmps279
 go_wp2
 go_quiet(fail)
 go_wp2
 go_ret
 exact⟨rfl,(Kp.refl _ _).drewN _⟩

theorem emit_end {role:Nat→Nat} {sv cv:Value} {kc:Nat} {bs:List BkV} (h:BStG E g w s role sv cv kc bs) (x:Ins) {W w1:World} {v1:Value} {n:Nat} {xs:List Value} (hn:n=s.code.length+1) (hxs:xs=s.code.flatMap Ins.cells++x.cells) (kW:Kp no w W)
  (hown1:w1.ownsRow E.B 214 5 v1 n xs) (hgrow:W.grownBy w1 cv.ownBlock) (hat:v1.ownBlock=cv.ownBlock∨v1.ownBlock=some W.heap.size):
  BSt E g (w1.setCell ⟨E.mb,3,none⟩ v1) {s with code:=s.code++[x]}∧Kp (nro E.ro) w (w1.setCell ⟨E.mb,3,none⟩ v1):=by
 subst hn hxs
 have h':=h.renew 6
 have hm:=lt_of_blk h.mod
 have k1:Kp (fun b=>(fun r=>r=2∨r=6) (newRole role w.heap.size 6 b)) w w1:=(kW.any).grown hgrow (fun b hb=> .inl (.inr (h'.r6 b hb)))
 have k2:Kp (fun b=>(fun r=>r=2∨r=6) (newRole role w.heap.size 6 b)) w (w1.setCell ⟨E.mb,3,none⟩ v1):=k1.setAt (.inl h'.r2) 3 v1
 have hr: ∀b,v1.ownBlock=some b→newRole role w.heap.size 6 b=6:=by
  intro b hb
  rcases hat with e|e
  ·exact h'.r6 b (e▸hb)
  ·rw[hb]at e;cases e;exact newRole_new kW.size
 have hmod:w1.heap[E.mb]? =some (modObj E cv):=(hgrow.block E.mb (Nat.lt_of_lt_of_le hm kW.size) (fun e=>by have :=h.r6 _ e.symm;rw[h.r2]at this;cases this)).trans (kW.blk h.mod (fun h=>h))
 refine⟨⟨_,sv,v1,kc,bs,h'.setCode (l:=s.code++[x]) k2 (heap_setCell hmod v1) ?_ hr⟩,h'.nro (X:=fun r=>r=2∨r=6) k2 (by decide)⟩
 have ho:(w1.setCell ⟨E.mb,3,none⟩ v1).ownsRow E.B 214 5 v1 (s.code.length+1) (s.code.flatMap Ins.cells++x.cells):=
  ((Kp.refl (one E.mb) w1).set1 3 v1).own hown1 (fun b hb (e:b=E.mb)=>by subst e;have :=hr _ hb;rw[h'.r2]at this;cases this)
 simpa[List.flatMap_append]using ho

theorem info_instr:(Tryz.prog.info? 214).map (fun i=>(i.zero,i.size,i.bytes))=some (some (.agg #[.int .u8 0,.int .u64 0,.int .i64 0,.int .i64 0,.int .i64 0]),5,40):=by kernel_rfl

theorem emit_any (h:BSt E g w s) (x:Ins) (hc:s.code.length≤1000000):Calls Tryz.prog 268 #[ptrTo E.bb,.agg x.cells.toArray] w fun r w'=>r= .returned (.tuple #[])∧BSt E g w' {s with code:=s.code++[x]}∧Kp (nro E.ro) w w':=by
 obtain⟨role,sv,cv,kc,bs,h⟩:=h
 obtain⟨i0,hi0,hz0,hz1,hz2⟩:=info_parts info_instr
 obtain⟨hb,-⟩:=cells_of h.body
 obtain⟨hm,hmf⟩:=cells_of h.mod
 have hlb:=lt_of_blk h.body
 have hlm:=lt_of_blk h.mod
 have hB:=h.env.base
 have hf1:=fun(X:Obj)=>(cells_of (heap_alloc_old (o:=X) h.mod)).2 3
 have hf2:=fun(X Y:Obj)=>(cells_of (heap_alloc_old (o:=Y) (heap_alloc_old (o:=X) h.mod))).2 3
 have n1:some E.bb≠cv.ownBlock:=fun e=>by have :=h.r6 _ e.symm;rw[h.r3]at this;cases this
 have n2:some E.mb≠cv.ownBlock:=fun e=>by have :=h.r6 _ e.symm;rw[h.r2]at this;cases this
 have n3:some w.heap.size≠cv.ownBlock:=fun e=>by have :=own_lt h.code e.symm;omega
 have H:=hide h
 clear h
 obtain⟨op,num,gl,ht,kp⟩:=x
 simp only[Ins.cells]
 go_enter Tryz.func268,Tryz.ntmps268
 go_wp2_with fail
 have hx:=heap_alloc_new w (.cells #[.int .u8 op.toNat,.int .u64 num,.int .i64 gl,.int .i64 ht,.int .i64 kp] 214)
 have hx1:=(cells_of hx).1
 have hmc:=fun(X Y:Obj)=>(cells_of (heap_alloc_old (o:=Y) (heap_alloc_old (o:=X) H.out.mod))).1 3
 go_region_law ((refine step_append_at _ (by rfl) _ _ _ (by rfl) E.B 214 i0 _ 5 40 Tryz.underlying119 hi0 hz0 hz1 hz2 rfl (by omega) cv s.code.length (s.code.flatMap Ins.cells) (by rfl) ((H.out.code.alloc _).alloc _) (.slice (some ⟨w.heap.size+1,0,none⟩) 1 1) 1 [.int .u8 op.toNat,.int .u64 num,.int .i64 gl,.int .i64 ht,.int .i64 kp] (by rfl) (RowAt.allocAt (by simp) #[.int .u8 op.toNat,.int .u64 num,.int .i64 gl,.int .i64 ht,.int .i64 kp] _ 1 5 rfl) (by simp[Value.oneCell']) (by simp only[maxLen];omega) (by omega) (by simp;omega) ?_;intro v1 w1 hown1 hgrow hat;obtain⟨ad1,cap1,rfl⟩:=own_shape hown1;have hmc1:=(hgrow.cell_far ⟨E.mb,3,none⟩ (by simp;omega) n2).trans (hmc _ _);have hmb1:=(hgrow.cell_far ⟨E.bb,1,none⟩ (by simp;omega) n1);have hmf1:=(hgrow.frozen_far ⟨E.mb,3,none⟩ (by simp;omega) n2).trans (hf2 _ _)))
 all_goals
  go_end0
  exact⟨rfl,emit_end H.out ⟨op,num,gl,ht,kp⟩ rfl rfl ((((Kp.refl no w).alloc _).alloc _).drewN 1) hown1 hgrow hat⟩
end

end Go.Proofs.YtdeplgkhmebalaaGreatDoor
