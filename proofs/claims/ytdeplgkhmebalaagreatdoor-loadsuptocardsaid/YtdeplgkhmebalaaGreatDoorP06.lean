/- The document's reader: the plain instructions with an address behind them, and the numbers. -/
import Derived.Test.YtdeplgkhmebalaaGreatDoorP04

set_option linter.unusedSimpArgs false
set_option linter.unusedVariables false
set_option maxHeartbeats 1000000
set_option maxRecDepth 100000
namespace Go.Proofs.YtdeplgkhmebalaaGreatDoor.Rf
open Go.RowKit

theorem six0 (w:World) (a0 a1 a2 a3 a4 a5:Obj):
  ((((((w.alloc a0).alloc a1).alloc a2).alloc a3).alloc a4).alloc a5).heap[w.heap.size]? =some a0∧
  ((((((w.alloc a0).alloc a1).alloc a2).alloc a3).alloc a4).alloc a5).heap[w.heap.size+1]? =some a1:=
 ⟨heap_alloc_old (heap_alloc_old (heap_alloc_old (heap_alloc_old (heap_alloc_old (heap_alloc_at _ rfl))))),heap_alloc_old (heap_alloc_old (heap_alloc_old (heap_alloc_old (heap_alloc_at _ (by simp)))))⟩
theorem u_bd (E:PE) (most:Int) (σ:PS) (hm:0≤most):((uM E most σ).1:Int)≤most:=by
 by_cases h:badM (uM E most σ).2=false
 ·exact u_le E most σ h
 ·unfold uM at *
  simp only at *
  split at h
  ·rename_i hb;rw[if_pos hb];simpa using hm
  ·rename_i hb
   rw[if_neg hb]
   split
   ·simpa using hm
   ·rename_i hc;rw[if_neg hc]at h;simp_all
def two (a b:Nat):Nat→Prop:=fun k=>k=a∨k=b
theorem fin7 (w:World) (a b:Nat) (u0 u1 u2 u3 u4 u5 u6:Value):Kp (two a b) w (((((((w.setCell ⟨a,1,none⟩ u0).setCell ⟨b,0,none⟩ u1).setCell ⟨b,1,none⟩ u2).setCell ⟨b,2,none⟩ u3).setCell ⟨b,3,none⟩ u4).setCell ⟨b,4,none⟩ u5).setCell ⟨b,5,none⟩ u6):=
 (((((((Kp.refl _ _).setAt (.inl rfl) _ _).setAt (.inr rfl) _ _).setAt (.inr rfl) _ _).setAt (.inr rfl) _ _).setAt (.inr rfl) _ _).setAt (.inr rfl) _ _).setAt (.inr rfl) _ _
theorem fin8 (w:World) (a b:Nat) (o:Obj) (u0 u1 u2 u3 u4 u5 u6:Value):Kp (two a b) w ((((((((w.setCell ⟨a,1,none⟩ u0).setCell ⟨b,0,none⟩ u1).setCell ⟨b,1,none⟩ u2).setCell ⟨b,2,none⟩ u3).setCell ⟨b,3,none⟩ u4).setCell ⟨b,4,none⟩ u5).setCell ⟨b,5,none⟩ u6).alloc o)∧
  ((((((((w.setCell ⟨a,1,none⟩ u0).setCell ⟨b,0,none⟩ u1).setCell ⟨b,1,none⟩ u2).setCell ⟨b,2,none⟩ u3).setCell ⟨b,3,none⟩ u4).setCell ⟨b,4,none⟩ u5).setCell ⟨b,5,none⟩ u6).alloc o).heap[w.heap.size]? =some o:=
 ⟨(fin7 w a b u0 u1 u2 u3 u4 u5 u6).alloc o,heap_alloc_at o (by simp[World.setCell])⟩
theorem s_bd (E:PE) (size:Nat) (σ:PS) (hs:size=32∨size=64):((sM E size σ).1:Int)≤18446744073709551615:=by
 have hv: ∀l:List Bool,l.length=size→(valOf l:Int)≤18446744073709551615:=by
  intro l hl
  have h1:=valOf_lt l
  have h2:2^l.length≤2^64:=Nat.pow_le_pow_right (by decide) (by omega)
  have h3:2^64=18446744073709551616:=by decide
  omega
 unfold sM
 generalize numberM E (if size=64 then 10 else 5) σ=r
 simp only
 split
 ·simp
 ·split
  ·simp
  ·exact hv _ (ext_length _ _ _)

theorem plain_40 {w0 w:World} {pb:Nat} {E:PE} {σ:PS} (h:PSt w pb E σ) (at_:Int):
  Calls Tryz.prog 217 #[ptr pb,nodeV 40 0 nilS nilS nilS 0,.int .i64 at_] w fun r w'=>Told w0 w w' pb 40 {n:=(uM E 4294967295 σ).1,labels:=[],value:=0,take:=[127],put:=[127],ok:=true} r∧PSt w' pb E (uM E 4294967295 σ).2∧Kp (one pb) w w':=by
 have HS:=hide h
 have hpb:=h.lt
 have hbd:=u_bd E 4294967295 σ (by decide)
 have hu:=fun(W:World) (hW:PSt W pb E σ)=>u_any hW 4294967295
 generalize(uM E 4294967295 σ).1=n at *
 generalize(uM E 4294967295 σ).2=σ1 at *
 have Hu:=hide hu
 clear h hu
 have h6:=six w (.cells #[.int .u8 (40:Nat),.int .u64 0,nilS,nilS,nilS,.int .i64 0] 309) (.cells #[.int .u8 0,.int .u64 0,nilS,nilS,nilS,.int .i64 0] 309) (.cells #[.int .u8 127] 5) (.cells #[.int .u8 126] 5) (.cells #[.int .u8 127,.int .u8 127] 5) (.cells #[.int .u8 126,.int .u8 126] 5)
 have h60:=six0 w (.cells #[.int .u8 (40:Nat),.int .u64 0,nilS,nilS,nilS,.int .i64 0] 309) (.cells #[.int .u8 0,.int .u64 0,nilS,nilS,nilS,.int .i64 0] 309) (.cells #[.int .u8 127] 5) (.cells #[.int .u8 126] 5) (.cells #[.int .u8 127,.int .u8 127] 5) (.cells #[.int .u8 126,.int .u8 126] 5)
 have H6:=hide h6
 have H60:=hide h60
 clear h6 h60
 go_enter Tryz.func217,Tryz.ntmps217
 go_wp2_with fail
 refine(Hu.out _ (HS.out.no (by exact H6.out.2))).mono ?_
 rintro e w1 ⟨rfl,h1,k1⟩
 have H1:=hide h1
 obtain⟨hc0,hf0⟩:=cells_of (k1.blk H60.out.1 (by unfold one;omega))
 obtain⟨hc1,hf1⟩:=cells_of (k1.blk H60.out.2 (by unfold one;omega))
 clear h1
 go_wp2
 refine bodyPost_ret (v:= .tuple #[nodeV 40 n nilS nilS nilS 0,.slice (some ⟨w.heap.size+1+1,0,none⟩) 1 1,.slice (some ⟨w.heap.size+1+1,0,none⟩) 1 1,.bool true]) (by simp[results,Tryz.results217,go_sem,hc1]) rfl ?_
 have h6:=H6.out
 have kf:=fin7 w1 w.heap.size (w.heap.size+1) (.int .u64 n) (.int .u8 40) (.int .u64 n) nilS nilS nilS (.int .i64 0)
 exact⟨⟨nilS,_,_,rfl,labNil _ _ _,heldNew hpb (BytesAt.blk (l:=[127]) (kf.blk (k1.blk h6.1.1 (by unfold one;omega)) (by unfold two;omega))) (by omega),heldNew hpb (BytesAt.blk (l:=[127]) (kf.blk (k1.blk h6.1.1 (by unfold one;omega)) (by unfold two;omega))) (by omega)⟩,H1.out.keep kf (fun k hk=>by unfold two;omega),(h6.2.any.trans k1).comp kf (fun _ _ h=>h) (fun k hk h=>by unfold two at h;omega)⟩

theorem plain_44 {w0 w:World} {pb:Nat} {E:PE} {σ:PS} (h:PSt w pb E σ) (at_:Int):
  Calls Tryz.prog 217 #[ptr pb,nodeV 44 0 nilS nilS nilS 0,.int .i64 at_] w fun r w'=>Told w0 w w' pb 44 {n:=(uM E 4294967295 σ).1,labels:=[],value:=0,take:=[127],put:=[127],ok:=true} r∧PSt w' pb E (uM E 4294967295 σ).2∧Kp (one pb) w w':=by
 have HS:=hide h
 have hpb:=h.lt
 have hbd:=u_bd E 4294967295 σ (by decide)
 have hu:=fun(W:World) (hW:PSt W pb E σ)=>u_any hW 4294967295
 generalize(uM E 4294967295 σ).1=n at *
 generalize(uM E 4294967295 σ).2=σ1 at *
 have Hu:=hide hu
 clear h hu
 have h6:=six w (.cells #[.int .u8 (44:Nat),.int .u64 0,nilS,nilS,nilS,.int .i64 0] 309) (.cells #[.int .u8 0,.int .u64 0,nilS,nilS,nilS,.int .i64 0] 309) (.cells #[.int .u8 127] 5) (.cells #[.int .u8 126] 5) (.cells #[.int .u8 127,.int .u8 127] 5) (.cells #[.int .u8 126,.int .u8 126] 5)
 have h60:=six0 w (.cells #[.int .u8 (44:Nat),.int .u64 0,nilS,nilS,nilS,.int .i64 0] 309) (.cells #[.int .u8 0,.int .u64 0,nilS,nilS,nilS,.int .i64 0] 309) (.cells #[.int .u8 127] 5) (.cells #[.int .u8 126] 5) (.cells #[.int .u8 127,.int .u8 127] 5) (.cells #[.int .u8 126,.int .u8 126] 5)
 have H6:=hide h6
 have H60:=hide h60
 clear h6 h60
 go_enter Tryz.func217,Tryz.ntmps217
 go_wp2_with fail
 refine(Hu.out _ (HS.out.no (by exact H6.out.2))).mono ?_
 rintro e w1 ⟨rfl,h1,k1⟩
 have H1:=hide h1
 obtain⟨hc0,hf0⟩:=cells_of (k1.blk H60.out.1 (by unfold one;omega))
 obtain⟨hc1,hf1⟩:=cells_of (k1.blk H60.out.2 (by unfold one;omega))
 clear h1
 go_wp2
 refine bodyPost_ret (v:= .tuple #[nodeV 44 n nilS nilS nilS 0,.slice (some ⟨w.heap.size+1+1,0,none⟩) 1 1,.slice (some ⟨w.heap.size+1+1,0,none⟩) 1 1,.bool true]) (by simp[results,Tryz.results217,go_sem,hc1]) rfl ?_
 have h6:=H6.out
 have kf:=fin7 w1 w.heap.size (w.heap.size+1) (.int .u64 n) (.int .u8 44) (.int .u64 n) nilS nilS nilS (.int .i64 0)
 exact⟨⟨nilS,_,_,rfl,labNil _ _ _,heldNew hpb (BytesAt.blk (l:=[127]) (kf.blk (k1.blk h6.1.1 (by unfold one;omega)) (by unfold two;omega))) (by omega),heldNew hpb (BytesAt.blk (l:=[127]) (kf.blk (k1.blk h6.1.1 (by unfold one;omega)) (by unfold two;omega))) (by omega)⟩,H1.out.keep kf (fun k hk=>by unfold two;omega),(h6.2.any.trans k1).comp kf (fun _ _ h=>h) (fun k hk h=>by unfold two at h;omega)⟩

theorem plain_45 {w0 w:World} {pb:Nat} {E:PE} {σ:PS} (h:PSt w pb E σ) (at_:Int):
  Calls Tryz.prog 217 #[ptr pb,nodeV 45 0 nilS nilS nilS 0,.int .i64 at_] w fun r w'=>Told w0 w w' pb 45 {n:=(uM E 4294967295 σ).1,labels:=[],value:=0,take:=[127],put:=[127],ok:=true} r∧PSt w' pb E (uM E 4294967295 σ).2∧Kp (one pb) w w':=by
 have HS:=hide h
 have hpb:=h.lt
 have hbd:=u_bd E 4294967295 σ (by decide)
 have hu:=fun(W:World) (hW:PSt W pb E σ)=>u_any hW 4294967295
 generalize(uM E 4294967295 σ).1=n at *
 generalize(uM E 4294967295 σ).2=σ1 at *
 have Hu:=hide hu
 clear h hu
 have h6:=six w (.cells #[.int .u8 (45:Nat),.int .u64 0,nilS,nilS,nilS,.int .i64 0] 309) (.cells #[.int .u8 0,.int .u64 0,nilS,nilS,nilS,.int .i64 0] 309) (.cells #[.int .u8 127] 5) (.cells #[.int .u8 126] 5) (.cells #[.int .u8 127,.int .u8 127] 5) (.cells #[.int .u8 126,.int .u8 126] 5)
 have h60:=six0 w (.cells #[.int .u8 (45:Nat),.int .u64 0,nilS,nilS,nilS,.int .i64 0] 309) (.cells #[.int .u8 0,.int .u64 0,nilS,nilS,nilS,.int .i64 0] 309) (.cells #[.int .u8 127] 5) (.cells #[.int .u8 126] 5) (.cells #[.int .u8 127,.int .u8 127] 5) (.cells #[.int .u8 126,.int .u8 126] 5)
 have H6:=hide h6
 have H60:=hide h60
 clear h6 h60
 go_enter Tryz.func217,Tryz.ntmps217
 go_wp2_with fail
 refine(Hu.out _ (HS.out.no (by exact H6.out.2))).mono ?_
 rintro e w1 ⟨rfl,h1,k1⟩
 have H1:=hide h1
 obtain⟨hc0,hf0⟩:=cells_of (k1.blk H60.out.1 (by unfold one;omega))
 obtain⟨hc1,hf1⟩:=cells_of (k1.blk H60.out.2 (by unfold one;omega))
 clear h1
 go_wp2
 refine bodyPost_ret (v:= .tuple #[nodeV 45 n nilS nilS nilS 0,.slice (some ⟨w.heap.size+1+1,0,none⟩) 1 1,.slice (some ⟨w.heap.size+1+1,0,none⟩) 1 1,.bool true]) (by simp[results,Tryz.results217,go_sem,hc1]) rfl ?_
 have h6:=H6.out
 have kf:=fin7 w1 w.heap.size (w.heap.size+1) (.int .u64 n) (.int .u8 45) (.int .u64 n) nilS nilS nilS (.int .i64 0)
 exact⟨⟨nilS,_,_,rfl,labNil _ _ _,heldNew hpb (BytesAt.blk (l:=[127]) (kf.blk (k1.blk h6.1.1 (by unfold one;omega)) (by unfold two;omega))) (by omega),heldNew hpb (BytesAt.blk (l:=[127]) (kf.blk (k1.blk h6.1.1 (by unfold one;omega)) (by unfold two;omega))) (by omega)⟩,H1.out.keep kf (fun k hk=>by unfold two;omega),(h6.2.any.trans k1).comp kf (fun _ _ h=>h) (fun k hk h=>by unfold two at h;omega)⟩

theorem plain_41 {w0 w:World} {pb:Nat} {E:PE} {σ:PS} (h:PSt w pb E σ) (at_:Int):
  Calls Tryz.prog 217 #[ptr pb,nodeV 41 0 nilS nilS nilS 0,.int .i64 at_] w fun r w'=>Told w0 w w' pb 41 {n:=(uM E 4294967295 σ).1,labels:=[],value:=0,take:=[127],put:=[126],ok:=true} r∧PSt w' pb E (uM E 4294967295 σ).2∧Kp (one pb) w w':=by
 have HS:=hide h
 have hpb:=h.lt
 have hbd:=u_bd E 4294967295 σ (by decide)
 have hu:=fun(W:World) (hW:PSt W pb E σ)=>u_any hW 4294967295
 generalize(uM E 4294967295 σ).1=n at *
 generalize(uM E 4294967295 σ).2=σ1 at *
 have Hu:=hide hu
 clear h hu
 have h6:=six w (.cells #[.int .u8 (41:Nat),.int .u64 0,nilS,nilS,nilS,.int .i64 0] 309) (.cells #[.int .u8 0,.int .u64 0,nilS,nilS,nilS,.int .i64 0] 309) (.cells #[.int .u8 127] 5) (.cells #[.int .u8 126] 5) (.cells #[.int .u8 127,.int .u8 127] 5) (.cells #[.int .u8 126,.int .u8 126] 5)
 have h60:=six0 w (.cells #[.int .u8 (41:Nat),.int .u64 0,nilS,nilS,nilS,.int .i64 0] 309) (.cells #[.int .u8 0,.int .u64 0,nilS,nilS,nilS,.int .i64 0] 309) (.cells #[.int .u8 127] 5) (.cells #[.int .u8 126] 5) (.cells #[.int .u8 127,.int .u8 127] 5) (.cells #[.int .u8 126,.int .u8 126] 5)
 have H6:=hide h6
 have H60:=hide h60
 clear h6 h60
 go_enter Tryz.func217,Tryz.ntmps217
 go_wp2_with fail
 refine(Hu.out _ (HS.out.no (by exact H6.out.2))).mono ?_
 rintro e w1 ⟨rfl,h1,k1⟩
 have H1:=hide h1
 obtain⟨hc0,hf0⟩:=cells_of (k1.blk H60.out.1 (by unfold one;omega))
 obtain⟨hc1,hf1⟩:=cells_of (k1.blk H60.out.2 (by unfold one;omega))
 clear h1
 go_wp2
 refine bodyPost_ret (v:= .tuple #[nodeV 41 n nilS nilS nilS 0,.slice (some ⟨w.heap.size+1+1,0,none⟩) 1 1,.slice (some ⟨w.heap.size+1+1+1,0,none⟩) 1 1,.bool true]) (by simp[results,Tryz.results217,go_sem,hc1]) rfl ?_
 have h6:=H6.out
 have kf:=fin7 w1 w.heap.size (w.heap.size+1) (.int .u64 n) (.int .u8 41) (.int .u64 n) nilS nilS nilS (.int .i64 0)
 exact⟨⟨nilS,_,_,rfl,labNil _ _ _,heldNew hpb (BytesAt.blk (l:=[127]) (kf.blk (k1.blk h6.1.1 (by unfold one;omega)) (by unfold two;omega))) (by omega),heldNew hpb (BytesAt.blk (l:=[126]) (kf.blk (k1.blk h6.1.2.1 (by unfold one;omega)) (by unfold two;omega))) (by omega)⟩,H1.out.keep kf (fun k hk=>by unfold two;omega),(h6.2.any.trans k1).comp kf (fun _ _ h=>h) (fun k hk h=>by unfold two at h;omega)⟩

theorem plain_54 {w0 w:World} {pb:Nat} {E:PE} {σ:PS} (h:PSt w pb E σ) (at_:Int):
  Calls Tryz.prog 217 #[ptr pb,nodeV 54 0 nilS nilS nilS 0,.int .i64 at_] w fun r w'=>Told w0 w w' pb 54 {n:=(uM E 4294967295 σ).1,labels:=[],value:=0,take:=[127,127],put:=[],ok:=true} r∧PSt w' pb E (uM E 4294967295 σ).2∧Kp (one pb) w w':=by
 have HS:=hide h
 have hpb:=h.lt
 have hbd:=u_bd E 4294967295 σ (by decide)
 have hu:=fun(W:World) (hW:PSt W pb E σ)=>u_any hW 4294967295
 generalize(uM E 4294967295 σ).1=n at *
 generalize(uM E 4294967295 σ).2=σ1 at *
 have Hu:=hide hu
 clear h hu
 have h6:=six w (.cells #[.int .u8 (54:Nat),.int .u64 0,nilS,nilS,nilS,.int .i64 0] 309) (.cells #[.int .u8 0,.int .u64 0,nilS,nilS,nilS,.int .i64 0] 309) (.cells #[.int .u8 127] 5) (.cells #[.int .u8 126] 5) (.cells #[.int .u8 127,.int .u8 127] 5) (.cells #[.int .u8 126,.int .u8 126] 5)
 have h60:=six0 w (.cells #[.int .u8 (54:Nat),.int .u64 0,nilS,nilS,nilS,.int .i64 0] 309) (.cells #[.int .u8 0,.int .u64 0,nilS,nilS,nilS,.int .i64 0] 309) (.cells #[.int .u8 127] 5) (.cells #[.int .u8 126] 5) (.cells #[.int .u8 127,.int .u8 127] 5) (.cells #[.int .u8 126,.int .u8 126] 5)
 have H6:=hide h6
 have H60:=hide h60
 clear h6 h60
 go_enter Tryz.func217,Tryz.ntmps217
 go_wp2_with fail
 refine(Hu.out _ (HS.out.no (by exact H6.out.2))).mono ?_
 rintro e w1 ⟨rfl,h1,k1⟩
 have H1:=hide h1
 obtain⟨hc0,hf0⟩:=cells_of (k1.blk H60.out.1 (by unfold one;omega))
 obtain⟨hc1,hf1⟩:=cells_of (k1.blk H60.out.2 (by unfold one;omega))
 clear h1
 go_wp2
 refine bodyPost_ret (v:= .tuple #[nodeV 54 n nilS nilS nilS 0,.slice (some ⟨w.heap.size+1+1+1+1,0,none⟩) 2 2,nilS,.bool true]) (by simp[results,Tryz.results217,go_sem,hc1]) rfl ?_
 have h6:=H6.out
 have kf:=fin7 w1 w.heap.size (w.heap.size+1) (.int .u64 n) (.int .u8 54) (.int .u64 n) nilS nilS nilS (.int .i64 0)
 exact⟨⟨nilS,_,_,rfl,labNil _ _ _,heldNew hpb (BytesAt.blk (l:=[127,127]) (kf.blk (k1.blk h6.1.2.2.1 (by unfold one;omega)) (by unfold two;omega))) (by omega),heldNil _ _ _ _⟩,H1.out.keep kf (fun k hk=>by unfold two;omega),(h6.2.any.trans k1).comp kf (fun _ _ h=>h) (fun k hk h=>by unfold two at h;omega)⟩

theorem plain_58 {w0 w:World} {pb:Nat} {E:PE} {σ:PS} (h:PSt w pb E σ) (at_:Int):
  Calls Tryz.prog 217 #[ptr pb,nodeV 58 0 nilS nilS nilS 0,.int .i64 at_] w fun r w'=>Told w0 w w' pb 58 {n:=(uM E 4294967295 σ).1,labels:=[],value:=0,take:=[127,127],put:=[],ok:=true} r∧PSt w' pb E (uM E 4294967295 σ).2∧Kp (one pb) w w':=by
 have HS:=hide h
 have hpb:=h.lt
 have hbd:=u_bd E 4294967295 σ (by decide)
 have hu:=fun(W:World) (hW:PSt W pb E σ)=>u_any hW 4294967295
 generalize(uM E 4294967295 σ).1=n at *
 generalize(uM E 4294967295 σ).2=σ1 at *
 have Hu:=hide hu
 clear h hu
 have h6:=six w (.cells #[.int .u8 (58:Nat),.int .u64 0,nilS,nilS,nilS,.int .i64 0] 309) (.cells #[.int .u8 0,.int .u64 0,nilS,nilS,nilS,.int .i64 0] 309) (.cells #[.int .u8 127] 5) (.cells #[.int .u8 126] 5) (.cells #[.int .u8 127,.int .u8 127] 5) (.cells #[.int .u8 126,.int .u8 126] 5)
 have h60:=six0 w (.cells #[.int .u8 (58:Nat),.int .u64 0,nilS,nilS,nilS,.int .i64 0] 309) (.cells #[.int .u8 0,.int .u64 0,nilS,nilS,nilS,.int .i64 0] 309) (.cells #[.int .u8 127] 5) (.cells #[.int .u8 126] 5) (.cells #[.int .u8 127,.int .u8 127] 5) (.cells #[.int .u8 126,.int .u8 126] 5)
 have H6:=hide h6
 have H60:=hide h60
 clear h6 h60
 go_enter Tryz.func217,Tryz.ntmps217
 go_wp2_with fail
 refine(Hu.out _ (HS.out.no (by exact H6.out.2))).mono ?_
 rintro e w1 ⟨rfl,h1,k1⟩
 have H1:=hide h1
 obtain⟨hc0,hf0⟩:=cells_of (k1.blk H60.out.1 (by unfold one;omega))
 obtain⟨hc1,hf1⟩:=cells_of (k1.blk H60.out.2 (by unfold one;omega))
 clear h1
 go_wp2
 refine bodyPost_ret (v:= .tuple #[nodeV 58 n nilS nilS nilS 0,.slice (some ⟨w.heap.size+1+1+1+1,0,none⟩) 2 2,nilS,.bool true]) (by simp[results,Tryz.results217,go_sem,hc1]) rfl ?_
 have h6:=H6.out
 have kf:=fin7 w1 w.heap.size (w.heap.size+1) (.int .u64 n) (.int .u8 58) (.int .u64 n) nilS nilS nilS (.int .i64 0)
 exact⟨⟨nilS,_,_,rfl,labNil _ _ _,heldNew hpb (BytesAt.blk (l:=[127,127]) (kf.blk (k1.blk h6.1.2.2.1 (by unfold one;omega)) (by unfold two;omega))) (by omega),heldNil _ _ _ _⟩,H1.out.keep kf (fun k hk=>by unfold two;omega),(h6.2.any.trans k1).comp kf (fun _ _ h=>h) (fun k hk h=>by unfold two at h;omega)⟩

theorem plain_65 {w0 w:World} {pb:Nat} {E:PE} {σ:PS} (h:PSt w pb E σ) (at_:Int):
  Calls Tryz.prog 217 #[ptr pb,nodeV 65 0 nilS nilS nilS 0,.int .i64 at_] w fun r w'=>Told w0 w w' pb 65 {n:=(sM E 32 σ).1,labels:=[],value:=0,take:=[],put:=[127],ok:=true} r∧PSt w' pb E (sM E 32 σ).2∧Kp (one pb) w w':=by
 have HS:=hide h
 have hpb:=h.lt
 have hbd:=s_bd E 32 σ (by decide)
 have hu:=fun(W:World) (hW:PSt W pb E σ)=>s_any hW 32 (by decide)
 generalize(sM E 32 σ).1=n at *
 generalize(sM E 32 σ).2=σ1 at *
 have Hu:=hide hu
 clear h hu
 have h6:=six w (.cells #[.int .u8 (65:Nat),.int .u64 0,nilS,nilS,nilS,.int .i64 0] 309) (.cells #[.int .u8 0,.int .u64 0,nilS,nilS,nilS,.int .i64 0] 309) (.cells #[.int .u8 127] 5) (.cells #[.int .u8 126] 5) (.cells #[.int .u8 127,.int .u8 127] 5) (.cells #[.int .u8 126,.int .u8 126] 5)
 have h60:=six0 w (.cells #[.int .u8 (65:Nat),.int .u64 0,nilS,nilS,nilS,.int .i64 0] 309) (.cells #[.int .u8 0,.int .u64 0,nilS,nilS,nilS,.int .i64 0] 309) (.cells #[.int .u8 127] 5) (.cells #[.int .u8 126] 5) (.cells #[.int .u8 127,.int .u8 127] 5) (.cells #[.int .u8 126,.int .u8 126] 5)
 have H6:=hide h6
 have H60:=hide h60
 clear h6 h60
 go_enter Tryz.func217,Tryz.ntmps217
 go_wp2_with fail
 refine(Hu.out _ (HS.out.no (by exact H6.out.2))).mono ?_
 rintro e w1 ⟨rfl,h1,k1⟩
 have H1:=hide h1
 obtain⟨hc0,hf0⟩:=cells_of (k1.blk H60.out.1 (by unfold one;omega))
 obtain⟨hc1,hf1⟩:=cells_of (k1.blk H60.out.2 (by unfold one;omega))
 clear h1
 go_wp2
 refine bodyPost_ret (v:= .tuple #[nodeV 65 n nilS nilS nilS 0,nilS,.slice (some ⟨w.heap.size+1+1,0,none⟩) 1 1,.bool true]) (by simp[results,Tryz.results217,go_sem,hc1]) rfl ?_
 have h6:=H6.out
 have kf:=fin7 w1 w.heap.size (w.heap.size+1) (.int .u64 n) (.int .u8 65) (.int .u64 n) nilS nilS nilS (.int .i64 0)
 exact⟨⟨nilS,_,_,rfl,labNil _ _ _,heldNil _ _ _ _,heldNew hpb (BytesAt.blk (l:=[127]) (kf.blk (k1.blk h6.1.1 (by unfold one;omega)) (by unfold two;omega))) (by omega)⟩,H1.out.keep kf (fun k hk=>by unfold two;omega),(h6.2.any.trans k1).comp kf (fun _ _ h=>h) (fun k hk h=>by unfold two at h;omega)⟩

theorem plain_66 {w0 w:World} {pb:Nat} {E:PE} {σ:PS} (h:PSt w pb E σ) (at_:Int):
  Calls Tryz.prog 217 #[ptr pb,nodeV 66 0 nilS nilS nilS 0,.int .i64 at_] w fun r w'=>Told w0 w w' pb 66 {n:=(sM E 64 σ).1,labels:=[],value:=0,take:=[],put:=[126],ok:=true} r∧PSt w' pb E (sM E 64 σ).2∧Kp (one pb) w w':=by
 have HS:=hide h
 have hpb:=h.lt
 have hbd:=s_bd E 64 σ (by decide)
 have hu:=fun(W:World) (hW:PSt W pb E σ)=>s_any hW 64 (by decide)
 generalize(sM E 64 σ).1=n at *
 generalize(sM E 64 σ).2=σ1 at *
 have Hu:=hide hu
 clear h hu
 have h6:=six w (.cells #[.int .u8 (66:Nat),.int .u64 0,nilS,nilS,nilS,.int .i64 0] 309) (.cells #[.int .u8 0,.int .u64 0,nilS,nilS,nilS,.int .i64 0] 309) (.cells #[.int .u8 127] 5) (.cells #[.int .u8 126] 5) (.cells #[.int .u8 127,.int .u8 127] 5) (.cells #[.int .u8 126,.int .u8 126] 5)
 have h60:=six0 w (.cells #[.int .u8 (66:Nat),.int .u64 0,nilS,nilS,nilS,.int .i64 0] 309) (.cells #[.int .u8 0,.int .u64 0,nilS,nilS,nilS,.int .i64 0] 309) (.cells #[.int .u8 127] 5) (.cells #[.int .u8 126] 5) (.cells #[.int .u8 127,.int .u8 127] 5) (.cells #[.int .u8 126,.int .u8 126] 5)
 have H6:=hide h6
 have H60:=hide h60
 clear h6 h60
 go_enter Tryz.func217,Tryz.ntmps217
 go_wp2_with fail
 refine(Hu.out _ (HS.out.no (by exact H6.out.2))).mono ?_
 rintro e w1 ⟨rfl,h1,k1⟩
 have H1:=hide h1
 obtain⟨hc0,hf0⟩:=cells_of (k1.blk H60.out.1 (by unfold one;omega))
 obtain⟨hc1,hf1⟩:=cells_of (k1.blk H60.out.2 (by unfold one;omega))
 clear h1
 go_wp2
 refine bodyPost_ret (v:= .tuple #[nodeV 66 n nilS nilS nilS 0,nilS,.slice (some ⟨w.heap.size+1+1+1,0,none⟩) 1 1,.bool true]) (by simp[results,Tryz.results217,go_sem,hc1]) rfl ?_
 have h6:=H6.out
 have kf:=fin7 w1 w.heap.size (w.heap.size+1) (.int .u64 n) (.int .u8 66) (.int .u64 n) nilS nilS nilS (.int .i64 0)
 exact⟨⟨nilS,_,_,rfl,labNil _ _ _,heldNil _ _ _ _,heldNew hpb (BytesAt.blk (l:=[126]) (kf.blk (k1.blk h6.1.2.1 (by unfold one;omega)) (by unfold two;omega))) (by omega)⟩,H1.out.keep kf (fun k hk=>by unfold two;omega),(h6.2.any.trans k1).comp kf (fun _ _ h=>h) (fun k hk h=>by unfold two at h;omega)⟩

theorem plain_55 {w0 w:World} {pb:Nat} {E:PE} {σ:PS} (h:PSt w pb E σ) (at_:Int):
  Calls Tryz.prog 217 #[ptr pb,nodeV 55 0 nilS nilS nilS 0,.int .i64 at_] w fun r w'=>Told w0 w w' pb 55 {n:=(uM E 4294967295 σ).1,labels:=[],value:=0,take:=[127,126],put:=[],ok:=true} r∧PSt w' pb E (uM E 4294967295 σ).2∧Kp (one pb) w w':=by
 have HS:=hide h
 have hpb:=h.lt
 have hbd:=u_bd E 4294967295 σ (by decide)
 have hu:=fun(W:World) (hW:PSt W pb E σ)=>u_any hW 4294967295
 generalize(uM E 4294967295 σ).1=n at *
 generalize(uM E 4294967295 σ).2=σ1 at *
 have Hu:=hide hu
 clear h hu
 have h6:=six w (.cells #[.int .u8 (55:Nat),.int .u64 0,nilS,nilS,nilS,.int .i64 0] 309) (.cells #[.int .u8 0,.int .u64 0,nilS,nilS,nilS,.int .i64 0] 309) (.cells #[.int .u8 127] 5) (.cells #[.int .u8 126] 5) (.cells #[.int .u8 127,.int .u8 127] 5) (.cells #[.int .u8 126,.int .u8 126] 5)
 have h60:=six0 w (.cells #[.int .u8 (55:Nat),.int .u64 0,nilS,nilS,nilS,.int .i64 0] 309) (.cells #[.int .u8 0,.int .u64 0,nilS,nilS,nilS,.int .i64 0] 309) (.cells #[.int .u8 127] 5) (.cells #[.int .u8 126] 5) (.cells #[.int .u8 127,.int .u8 127] 5) (.cells #[.int .u8 126,.int .u8 126] 5)
 have H6:=hide h6
 have H60:=hide h60
 clear h6 h60
 go_enter Tryz.func217,Tryz.ntmps217
 go_wp2_with fail
 refine(Hu.out _ (HS.out.no (by exact H6.out.2))).mono ?_
 rintro e w1 ⟨rfl,h1,k1⟩
 have H1:=hide h1
 obtain⟨hc0,hf0⟩:=cells_of (k1.blk H60.out.1 (by unfold one;omega))
 obtain⟨hc1,hf1⟩:=cells_of (k1.blk H60.out.2 (by unfold one;omega))
 clear h1
 have hlt0:w.heap.size<w1.heap.size:=by have :=k1.size;simp at this;omega
 have hlt1:w.heap.size+1<w1.heap.size:=by have :=k1.size;simp at this;omega
 go_wp2
 refine bodyPost_ret (v:= .tuple #[nodeV 55 n nilS nilS nilS 0,.slice (some ⟨w1.heap.size,0,none⟩) 2 2,nilS,.bool true]) (by simp[results,Tryz.results217,go_sem,hc1,hlt1]) rfl ?_
 have h6:=H6.out
 have hlt:w.heap.size+1+1≤w1.heap.size:=by have :=k1.size;simp at this;omega
 have kf':=fin8 w1 w.heap.size (w.heap.size+1) (.cells #[.int .u8 127,.int .u8 126] 5) (.int .u64 n) (.int .u8 55) (.int .u64 n) nilS nilS nilS (.int .i64 0)
 have kf:=kf'.1
 exact⟨⟨nilS,_,_,rfl,labNil _ _ _,heldNew hpb (BytesAt.blk (l:=[127,126]) kf'.2) (by omega),heldNil _ _ _ _⟩,H1.out.keep kf (fun k hk=>by unfold two;omega),(h6.2.any.trans k1).comp kf (fun _ _ h=>h) (fun k hk h=>by unfold two at h;omega)⟩

end Go.Proofs.YtdeplgkhmebalaaGreatDoor.Rf

set_option linter.unusedSimpArgs false
set_option linter.unusedVariables false
set_option maxHeartbeats 1000000
set_option maxRecDepth 100000
namespace Go.Proofs.YtdeplgkhmebalaaGreatDoor.Rf
open Go.RowKit

theorem _root_.Go.Proofs.YtdeplgkhmebalaaGreatDoor.BytesAt.at {w:World} {a o len cap:Nat} {l:List UInt8} (h:BytesAt w (.slice (some ⟨a,o,none⟩) len cap) l) (n:Nat) (hn:n<l.length):BytesAt w (.slice (some ⟨a,o+n,none⟩) 1 (cap -n)) [l.getD n 0]:=by
 rcases h.cases with⟨hv,-⟩|⟨a',o',cap',hv,hc,hcell⟩
 ·cases hv
 ·cases hv
  refine BytesAt.mk (l:=[l.getD n 0]) (by simp;omega) (fun k hk=> ?_)
  obtain rfl :k=0:=by simpa using hk
  simpa using hcell n hn

theorem cell_alloc_old {w:World} {b:Nat} (h:b<w.heap.size) (x:Obj) (o:Nat):(w.alloc x).cell? ⟨b,o,none⟩=w.cell? ⟨b,o,none⟩:=World.cell?_of_block (Below.heap_alloc _ _ _ h)
theorem six_cell {w:World} {b:Nat} (h:b<w.heap.size) (a0 a1 a2 a3 a4 a5:Obj) (o:Nat):((((((w.alloc a0).alloc a1).alloc a2).alloc a3).alloc a4).alloc a5).cell? ⟨b,o,none⟩=w.cell? ⟨b,o,none⟩:=by
 rw[cell_alloc_old (by simp;omega),cell_alloc_old (by simp;omega),cell_alloc_old (by simp;omega),cell_alloc_old (by simp;omega),cell_alloc_old (by simp;omega),cell_alloc_old h]

def localM (E:PE) (G:Env) (op:Nat) (σ:PS):IR×PS:=
 let r:=uM E ((G.locs.length:Int) -1) σ
 if badM r.2 then ({n:=0,labels:=[],value:=0,take:=[],put:=[],ok:=false},r.2)else
 let t:=[G.locs.getD r.1 0]
 ({n:=r.1,labels:=[],value:=0,take:=if op=32 then []else t,put:=if op=33 then []else t,ok:=true},r.2)

theorem lt_of_cell {w:World} {a o:Nat} {v:Value} (h:w.cell? ⟨a,o,none⟩=some v):a<w.heap.size:=by
 rcases Nat.lt_or_ge a w.heap.size with h1|h1
 ·exact h1
 ·rw[World.cell?,Array.getElem?_eq_none h1]at h;cases h
theorem fin6 (w:World) (a b:Nat) (u1 u2 u3 u4 u5 u6:Value):Kp (two a b) w ((((((w.setCell ⟨b,0,none⟩ u1).setCell ⟨b,1,none⟩ u2).setCell ⟨b,2,none⟩ u3).setCell ⟨b,3,none⟩ u4).setCell ⟨b,4,none⟩ u5).setCell ⟨b,5,none⟩ u6):=
 ((((((Kp.refl _ _).setAt (.inr rfl) _ _).setAt (.inr rfl) _ _).setAt (.inr rfl) _ _).setAt (.inr rfl) _ _).setAt (.inr rfl) _ _).setAt (.inr rfl) _ _

theorem plain_32 {w0 w:World} {pb:Nat} {E:PE} {G:Env} {σ:PS} (h:PSt w pb E σ) (hE0:EnvAt w0 pb E G) (k0:Kp (one pb) w0 w) (at_:Int):
  Calls Tryz.prog 217 #[ptr pb,nodeV 32 0 nilS nilS nilS 0,.int .i64 at_] w fun r w'=>Told w0 w w' pb 32 (localM E G 32 σ).1 r∧PSt w' pb E (localM E G 32 σ).2∧Kp (one pb) w w':=by
 have hM:localM E G 32 σ=(if badM (uM E ((G.locs.length:Int) -1) σ).2 then ({n:=0,labels:=[],value:=0,take:=[],put:=[],ok:=false},(uM E ((G.locs.length:Int) -1) σ).2)else
  ({n:=(uM E ((G.locs.length:Int) -1) σ).1,labels:=[],value:=0,take:=[],put:=[G.locs.getD (uM E ((G.locs.length:Int) -1) σ).1 0],ok:=true},(uM E ((G.locs.length:Int) -1) σ).2)):=rfl
 generalize localM E G 32 σ=R at *
 have hE:=hE0.kp k0
 have HS:=hide h
 have hpb:=h.lt
 obtain⟨i,err,pl,hi,hb,-,-⟩:=h.obj
 obtain⟨hc,-⟩:=cells_of hb
 have hle:=u_le E ((G.locs.length:Int) -1) σ
 have hu:=fun(W:World) (hW:PSt W pb E σ)=>u_any hW ((G.locs.length:Int) -1)
 have hL:=hE.locL
 generalize(uM E ((G.locs.length:Int) -1) σ).1=n at *
 generalize(uM E ((G.locs.length:Int) -1) σ).2=σ1 at *
 have Hu:=hide hu
 have HM:=hide hM
 have Hle:=hide hle
 have HE0:=hide hE0
 have HK0:=hide k0
 have HE:=hide hE
 obtain⟨ad,cap,hloc,hcap⟩:=hE.loc.shape
 rw[hloc]at hc
 have Hloc:=hide hloc
 clear h hu hb hM hle hE hloc hE0 k0
 have h6:=six w (.cells #[.int .u8 (32:Nat),.int .u64 0,nilS,nilS,nilS,.int .i64 0] 309) (.cells #[.int .u8 0,.int .u64 0,nilS,nilS,nilS,.int .i64 0] 309) (.cells #[.int .u8 127] 5) (.cells #[.int .u8 126] 5) (.cells #[.int .u8 127,.int .u8 127] 5) (.cells #[.int .u8 126,.int .u8 126] 5)
 have h60:=six0 w (.cells #[.int .u8 (32:Nat),.int .u64 0,nilS,nilS,nilS,.int .i64 0] 309) (.cells #[.int .u8 0,.int .u64 0,nilS,nilS,nilS,.int .i64 0] 309) (.cells #[.int .u8 127] 5) (.cells #[.int .u8 126] 5) (.cells #[.int .u8 127,.int .u8 127] 5) (.cells #[.int .u8 126,.int .u8 126] 5)
 have H6:=hide h6
 have H60:=hide h60
 clear h6 h60
 have hsx:=fun a0 a1 a2 a3 a4 a5 o=>six_cell hpb a0 a1 a2 a3 a4 a5 o
 go_enter Tryz.func217,Tryz.ntmps217
 go_wp2_with fail
 refine(Hu.out _ (HS.out.no (by exact H6.out.2))).mono ?_
 rintro e w1 ⟨rfl,h1,k1⟩
 have H1:=hide h1
 obtain⟨hc0,hf0⟩:=cells_of (k1.blk H60.out.1 (by unfold one;omega))
 obtain⟨hc1,hf1⟩:=cells_of (k1.blk H60.out.2 (by unfold one;omega))
 obtain⟨i1,err1,pl1,hi1,hb1,-,-⟩:=h1.obj
 obtain⟨hcp,-⟩:=cells_of hb1
 rw[Hloc.out]at hcp
 have hlt0:w.heap.size<w1.heap.size:=by have :=k1.size;simp at this;omega
 have hlt1:w.heap.size+1<w1.heap.size:=by have :=k1.size;simp at this;omega
 have k01:Kp (one pb) w w1:=H6.out.2.any.trans k1
 have HE1:=hide (HE.out.kp k01)
 clear h1 hb1 hc hsx
 have hM:=HM.out
 by_cases hbd:badM σ1=true
 ·rw[if_pos hbd]at hM
  have HM1:=hide hM
  clear hM HM
  go_wp2_with fail
  refine(bad_any H1.out).mono ?_
  rintro e w2 ⟨rfl,rfl⟩
  go_wp2
  refine bodyPost_ret (v:= .tuple #[nodeV 32 0 nilS nilS nilS 0,nilS,nilS,.bool false]) (by simp[results,Tryz.results217,go_sem,hc1]) rfl ?_
  have kf:=fin6 w2 w.heap.size (w.heap.size+1) (.int .u8 32) (.int .u64 0) nilS nilS nilS (.int .i64 0)
  rw[HM1.out]
  exact⟨⟨nilS,_,_,rfl,labNil _ _ _,heldNil _ _ _ _,heldNil _ _ _ _⟩,H1.out.keep kf (fun k hk=>by unfold two;omega),k01.comp kf (fun _ _ h=>h) (fun k hk h=>by unfold two at h;omega)⟩
 ·rw[if_neg hbd]at hM
  have HM1:=hide hM
  clear hM HM
  simp only[Bool.not_eq_true]at hbd
  have hn:=Hle.out hbd
  have hn1:n<G.locs.length:=by omega
  go_wp2_with fail
  refine(bad_any H1.out).mono ?_
  rintro e w2 ⟨rfl,rfl⟩
  rcases HE1.out.loc.cases with⟨hv,hnil⟩|⟨a,o,cap',hv,hcc,-⟩
  ·rw[hnil]at hn1;simp at hn1
  ·rw[Hloc.out]at hv
   cases hv
   go_wp2
   refine bodyPost_ret (v:= .tuple #[nodeV 32 n nilS nilS nilS 0,nilS,.slice (some ⟨a,o+n,none⟩) 1 (cap -n),.bool true]) (by simp[results,Tryz.results217,go_sem,hc1]) rfl ?_
   have kf:=fin7 w2 w.heap.size (w.heap.size+1) (.int .u64 n) (.int .u8 32) (.int .u64 n) nilS nilS nilS (.int .i64 0)
   have hl0:=HE.out.loc
   rw[Hloc.out]at hl0
   obtain⟨a',o',c',hv',_,hcell'⟩:=hl0.get hn1
   cases hv'
   have halt:=lt_of_cell hcell'
   have hl1:=HE1.out.loc
   rw[Hloc.out]at hl1
   have hb00:=HE0.out.loc
   rw[Hloc.out]at hb00
   have hb0:=hb00.at n hn1
   have hbt:=(hl1.at n hn1).kp kf (fun b hb h=>by simp only[Value.ownBlock,Option.some.injEq]at hb;unfold two at h;omega)
   have hst:Sep pb (.slice (some ⟨a,o+n,none⟩) 1 (cap -n)):=fun b hb=>by
    simp only[Value.ownBlock,Option.some.injEq]at hb
    subst hb
    exact HE.out.locS a (by rw[Hloc.out];rfl)
   rw[HM1.out]
   exact⟨⟨nilS,_,_,rfl,labNil _ _ _,heldNil _ _ _ _,⟨hst,hbt,.inl hb0⟩⟩,H1.out.keep kf (fun k hk=>by unfold two;omega),k01.comp kf (fun _ _ h=>h) (fun k hk h=>by unfold two at h;omega)⟩

theorem plain_33 {w0 w:World} {pb:Nat} {E:PE} {G:Env} {σ:PS} (h:PSt w pb E σ) (hE0:EnvAt w0 pb E G) (k0:Kp (one pb) w0 w) (at_:Int):
  Calls Tryz.prog 217 #[ptr pb,nodeV 33 0 nilS nilS nilS 0,.int .i64 at_] w fun r w'=>Told w0 w w' pb 33 (localM E G 33 σ).1 r∧PSt w' pb E (localM E G 33 σ).2∧Kp (one pb) w w':=by
 have hM:localM E G 33 σ=(if badM (uM E ((G.locs.length:Int) -1) σ).2 then ({n:=0,labels:=[],value:=0,take:=[],put:=[],ok:=false},(uM E ((G.locs.length:Int) -1) σ).2)else
  ({n:=(uM E ((G.locs.length:Int) -1) σ).1,labels:=[],value:=0,take:=[G.locs.getD (uM E ((G.locs.length:Int) -1) σ).1 0],put:=[],ok:=true},(uM E ((G.locs.length:Int) -1) σ).2)):=rfl
 generalize localM E G 33 σ=R at *
 have hE:=hE0.kp k0
 have HS:=hide h
 have hpb:=h.lt
 obtain⟨i,err,pl,hi,hb,-,-⟩:=h.obj
 obtain⟨hc,-⟩:=cells_of hb
 have hle:=u_le E ((G.locs.length:Int) -1) σ
 have hu:=fun(W:World) (hW:PSt W pb E σ)=>u_any hW ((G.locs.length:Int) -1)
 have hL:=hE.locL
 generalize(uM E ((G.locs.length:Int) -1) σ).1=n at *
 generalize(uM E ((G.locs.length:Int) -1) σ).2=σ1 at *
 have Hu:=hide hu
 have HM:=hide hM
 have Hle:=hide hle
 have HE0:=hide hE0
 have HK0:=hide k0
 have HE:=hide hE
 obtain⟨ad,cap,hloc,hcap⟩:=hE.loc.shape
 rw[hloc]at hc
 have Hloc:=hide hloc
 clear h hu hb hM hle hE hloc hE0 k0
 have h6:=six w (.cells #[.int .u8 (33:Nat),.int .u64 0,nilS,nilS,nilS,.int .i64 0] 309) (.cells #[.int .u8 0,.int .u64 0,nilS,nilS,nilS,.int .i64 0] 309) (.cells #[.int .u8 127] 5) (.cells #[.int .u8 126] 5) (.cells #[.int .u8 127,.int .u8 127] 5) (.cells #[.int .u8 126,.int .u8 126] 5)
 have h60:=six0 w (.cells #[.int .u8 (33:Nat),.int .u64 0,nilS,nilS,nilS,.int .i64 0] 309) (.cells #[.int .u8 0,.int .u64 0,nilS,nilS,nilS,.int .i64 0] 309) (.cells #[.int .u8 127] 5) (.cells #[.int .u8 126] 5) (.cells #[.int .u8 127,.int .u8 127] 5) (.cells #[.int .u8 126,.int .u8 126] 5)
 have H6:=hide h6
 have H60:=hide h60
 clear h6 h60
 have hsx:=fun a0 a1 a2 a3 a4 a5 o=>six_cell hpb a0 a1 a2 a3 a4 a5 o
 go_enter Tryz.func217,Tryz.ntmps217
 go_wp2_with fail
 refine(Hu.out _ (HS.out.no (by exact H6.out.2))).mono ?_
 rintro e w1 ⟨rfl,h1,k1⟩
 have H1:=hide h1
 obtain⟨hc0,hf0⟩:=cells_of (k1.blk H60.out.1 (by unfold one;omega))
 obtain⟨hc1,hf1⟩:=cells_of (k1.blk H60.out.2 (by unfold one;omega))
 obtain⟨i1,err1,pl1,hi1,hb1,-,-⟩:=h1.obj
 obtain⟨hcp,-⟩:=cells_of hb1
 rw[Hloc.out]at hcp
 have hlt0:w.heap.size<w1.heap.size:=by have :=k1.size;simp at this;omega
 have hlt1:w.heap.size+1<w1.heap.size:=by have :=k1.size;simp at this;omega
 have k01:Kp (one pb) w w1:=H6.out.2.any.trans k1
 have HE1:=hide (HE.out.kp k01)
 clear h1 hb1 hc hsx
 have hM:=HM.out
 by_cases hbd:badM σ1=true
 ·rw[if_pos hbd]at hM
  have HM1:=hide hM
  clear hM HM
  go_wp2_with fail
  refine(bad_any H1.out).mono ?_
  rintro e w2 ⟨rfl,rfl⟩
  go_wp2
  refine bodyPost_ret (v:= .tuple #[nodeV 33 0 nilS nilS nilS 0,nilS,nilS,.bool false]) (by simp[results,Tryz.results217,go_sem,hc1]) rfl ?_
  have kf:=fin6 w2 w.heap.size (w.heap.size+1) (.int .u8 33) (.int .u64 0) nilS nilS nilS (.int .i64 0)
  rw[HM1.out]
  exact⟨⟨nilS,_,_,rfl,labNil _ _ _,heldNil _ _ _ _,heldNil _ _ _ _⟩,H1.out.keep kf (fun k hk=>by unfold two;omega),k01.comp kf (fun _ _ h=>h) (fun k hk h=>by unfold two at h;omega)⟩
 ·rw[if_neg hbd]at hM
  have HM1:=hide hM
  clear hM HM
  simp only[Bool.not_eq_true]at hbd
  have hn:=Hle.out hbd
  have hn1:n<G.locs.length:=by omega
  go_wp2_with fail
  refine(bad_any H1.out).mono ?_
  rintro e w2 ⟨rfl,rfl⟩
  rcases HE1.out.loc.cases with⟨hv,hnil⟩|⟨a,o,cap',hv,hcc,-⟩
  ·rw[hnil]at hn1;simp at hn1
  ·rw[Hloc.out]at hv
   cases hv
   go_wp2
   refine bodyPost_ret (v:= .tuple #[nodeV 33 n nilS nilS nilS 0,.slice (some ⟨a,o+n,none⟩) 1 (cap -n),nilS,.bool true]) (by simp[results,Tryz.results217,go_sem,hc1]) rfl ?_
   have kf:=fin7 w2 w.heap.size (w.heap.size+1) (.int .u64 n) (.int .u8 33) (.int .u64 n) nilS nilS nilS (.int .i64 0)
   have hl0:=HE.out.loc
   rw[Hloc.out]at hl0
   obtain⟨a',o',c',hv',_,hcell'⟩:=hl0.get hn1
   cases hv'
   have halt:=lt_of_cell hcell'
   have hl1:=HE1.out.loc
   rw[Hloc.out]at hl1
   have hb00:=HE0.out.loc
   rw[Hloc.out]at hb00
   have hb0:=hb00.at n hn1
   have hbt:=(hl1.at n hn1).kp kf (fun b hb h=>by simp only[Value.ownBlock,Option.some.injEq]at hb;unfold two at h;omega)
   have hst:Sep pb (.slice (some ⟨a,o+n,none⟩) 1 (cap -n)):=fun b hb=>by
    simp only[Value.ownBlock,Option.some.injEq]at hb
    subst hb
    exact HE.out.locS a (by rw[Hloc.out];rfl)
   rw[HM1.out]
   exact⟨⟨nilS,_,_,rfl,labNil _ _ _,⟨hst,hbt,.inl hb0⟩,heldNil _ _ _ _⟩,H1.out.keep kf (fun k hk=>by unfold two;omega),k01.comp kf (fun _ _ h=>h) (fun k hk h=>by unfold two at h;omega)⟩

theorem plain_34 {w0 w:World} {pb:Nat} {E:PE} {G:Env} {σ:PS} (h:PSt w pb E σ) (hE0:EnvAt w0 pb E G) (k0:Kp (one pb) w0 w) (at_:Int):
  Calls Tryz.prog 217 #[ptr pb,nodeV 34 0 nilS nilS nilS 0,.int .i64 at_] w fun r w'=>Told w0 w w' pb 34 (localM E G 34 σ).1 r∧PSt w' pb E (localM E G 34 σ).2∧Kp (one pb) w w':=by
 have hM:localM E G 34 σ=(if badM (uM E ((G.locs.length:Int) -1) σ).2 then ({n:=0,labels:=[],value:=0,take:=[],put:=[],ok:=false},(uM E ((G.locs.length:Int) -1) σ).2)else
  ({n:=(uM E ((G.locs.length:Int) -1) σ).1,labels:=[],value:=0,take:=[G.locs.getD (uM E ((G.locs.length:Int) -1) σ).1 0],put:=[G.locs.getD (uM E ((G.locs.length:Int) -1) σ).1 0],ok:=true},(uM E ((G.locs.length:Int) -1) σ).2)):=rfl
 generalize localM E G 34 σ=R at *
 have hE:=hE0.kp k0
 have HS:=hide h
 have hpb:=h.lt
 obtain⟨i,err,pl,hi,hb,-,-⟩:=h.obj
 obtain⟨hc,-⟩:=cells_of hb
 have hle:=u_le E ((G.locs.length:Int) -1) σ
 have hu:=fun(W:World) (hW:PSt W pb E σ)=>u_any hW ((G.locs.length:Int) -1)
 have hL:=hE.locL
 generalize(uM E ((G.locs.length:Int) -1) σ).1=n at *
 generalize(uM E ((G.locs.length:Int) -1) σ).2=σ1 at *
 have Hu:=hide hu
 have HM:=hide hM
 have Hle:=hide hle
 have HE0:=hide hE0
 have HK0:=hide k0
 have HE:=hide hE
 obtain⟨ad,cap,hloc,hcap⟩:=hE.loc.shape
 rw[hloc]at hc
 have Hloc:=hide hloc
 clear h hu hb hM hle hE hloc hE0 k0
 have h6:=six w (.cells #[.int .u8 (34:Nat),.int .u64 0,nilS,nilS,nilS,.int .i64 0] 309) (.cells #[.int .u8 0,.int .u64 0,nilS,nilS,nilS,.int .i64 0] 309) (.cells #[.int .u8 127] 5) (.cells #[.int .u8 126] 5) (.cells #[.int .u8 127,.int .u8 127] 5) (.cells #[.int .u8 126,.int .u8 126] 5)
 have h60:=six0 w (.cells #[.int .u8 (34:Nat),.int .u64 0,nilS,nilS,nilS,.int .i64 0] 309) (.cells #[.int .u8 0,.int .u64 0,nilS,nilS,nilS,.int .i64 0] 309) (.cells #[.int .u8 127] 5) (.cells #[.int .u8 126] 5) (.cells #[.int .u8 127,.int .u8 127] 5) (.cells #[.int .u8 126,.int .u8 126] 5)
 have H6:=hide h6
 have H60:=hide h60
 clear h6 h60
 have hsx:=fun a0 a1 a2 a3 a4 a5 o=>six_cell hpb a0 a1 a2 a3 a4 a5 o
 go_enter Tryz.func217,Tryz.ntmps217
 go_wp2_with fail
 refine(Hu.out _ (HS.out.no (by exact H6.out.2))).mono ?_
 rintro e w1 ⟨rfl,h1,k1⟩
 have H1:=hide h1
 obtain⟨hc0,hf0⟩:=cells_of (k1.blk H60.out.1 (by unfold one;omega))
 obtain⟨hc1,hf1⟩:=cells_of (k1.blk H60.out.2 (by unfold one;omega))
 obtain⟨i1,err1,pl1,hi1,hb1,-,-⟩:=h1.obj
 obtain⟨hcp,-⟩:=cells_of hb1
 rw[Hloc.out]at hcp
 have hlt0:w.heap.size<w1.heap.size:=by have :=k1.size;simp at this;omega
 have hlt1:w.heap.size+1<w1.heap.size:=by have :=k1.size;simp at this;omega
 have k01:Kp (one pb) w w1:=H6.out.2.any.trans k1
 have HE1:=hide (HE.out.kp k01)
 clear h1 hb1 hc hsx
 have hM:=HM.out
 by_cases hbd:badM σ1=true
 ·rw[if_pos hbd]at hM
  have HM1:=hide hM
  clear hM HM
  go_wp2_with fail
  refine(bad_any H1.out).mono ?_
  rintro e w2 ⟨rfl,rfl⟩
  go_wp2
  refine bodyPost_ret (v:= .tuple #[nodeV 34 0 nilS nilS nilS 0,nilS,nilS,.bool false]) (by simp[results,Tryz.results217,go_sem,hc1]) rfl ?_
  have kf:=fin6 w2 w.heap.size (w.heap.size+1) (.int .u8 34) (.int .u64 0) nilS nilS nilS (.int .i64 0)
  rw[HM1.out]
  exact⟨⟨nilS,_,_,rfl,labNil _ _ _,heldNil _ _ _ _,heldNil _ _ _ _⟩,H1.out.keep kf (fun k hk=>by unfold two;omega),k01.comp kf (fun _ _ h=>h) (fun k hk h=>by unfold two at h;omega)⟩
 ·rw[if_neg hbd]at hM
  have HM1:=hide hM
  clear hM HM
  simp only[Bool.not_eq_true]at hbd
  have hn:=Hle.out hbd
  have hn1:n<G.locs.length:=by omega
  go_wp2_with fail
  refine(bad_any H1.out).mono ?_
  rintro e w2 ⟨rfl,rfl⟩
  rcases HE1.out.loc.cases with⟨hv,hnil⟩|⟨a,o,cap',hv,hcc,-⟩
  ·rw[hnil]at hn1;simp at hn1
  ·rw[Hloc.out]at hv
   cases hv
   go_wp2
   refine bodyPost_ret (v:= .tuple #[nodeV 34 n nilS nilS nilS 0,.slice (some ⟨a,o+n,none⟩) 1 (cap -n),.slice (some ⟨a,o+n,none⟩) 1 (cap -n),.bool true]) (by simp[results,Tryz.results217,go_sem,hc1]) rfl ?_
   have kf:=fin7 w2 w.heap.size (w.heap.size+1) (.int .u64 n) (.int .u8 34) (.int .u64 n) nilS nilS nilS (.int .i64 0)
   have hl0:=HE.out.loc
   rw[Hloc.out]at hl0
   obtain⟨a',o',c',hv',_,hcell'⟩:=hl0.get hn1
   cases hv'
   have halt:=lt_of_cell hcell'
   have hl1:=HE1.out.loc
   rw[Hloc.out]at hl1
   have hb00:=HE0.out.loc
   rw[Hloc.out]at hb00
   have hb0:=hb00.at n hn1
   have hbt:=(hl1.at n hn1).kp kf (fun b hb h=>by simp only[Value.ownBlock,Option.some.injEq]at hb;unfold two at h;omega)
   have hst:Sep pb (.slice (some ⟨a,o+n,none⟩) 1 (cap -n)):=fun b hb=>by
    simp only[Value.ownBlock,Option.some.injEq]at hb
    subst hb
    exact HE.out.locS a (by rw[Hloc.out];rfl)
   rw[HM1.out]
   exact⟨⟨nilS,_,_,rfl,labNil _ _ _,⟨hst,hbt,.inl hb0⟩,⟨hst,hbt,.inl hb0⟩⟩,H1.out.keep kf (fun k hk=>by unfold two;omega),k01.comp kf (fun _ _ h=>h) (fun k hk h=>by unfold two at h;omega)⟩

end Go.Proofs.YtdeplgkhmebalaaGreatDoor.Rf
