/- The document's reader: globals. -/
import Derived.Test.YtdeplgkhmebalaaGreatDoorP06
import Derived.Test.YtdeplgkhmebalaaGreatDoorP05
import Derived.Test.YtdeplgkhmebalaaGreatDoorP04
import Derived.Test.YtdeplgkhmebalaaGreatDoorP02

set_option linter.unusedSimpArgs false
set_option linter.unusedVariables false
set_option maxHeartbeats 1000000
set_option maxRecDepth 100000
namespace Go.Proofs.YtdeplgkhmebalaaGreatDoor.Rf
open Go.RowKit

def globalM (E:PE) (G:Env) (op:Nat) (σ:PS):IR×PS:=
 let r:=uM E ((G.globs.length:Int) -1) σ
 if badM r.2 then ({n:=0,labels:=[],value:=0,take:=[],put:=[],ok:=false},r.2)else
 let g:=G.globs.getD r.1 (0,0,0)
 ({n:=r.1,labels:=[],value:=0,take:=if op=35 then []else [g.1],put:=if op=36 then []else [g.1],ok:=if op=35 then true else g.2.1==1},r.2)

theorem plain_35 {w0 w:World} {pb:Nat} {E:PE} {G:Env} {σ:PS} (h:PSt w pb E σ) (hE0:EnvAt w0 pb E G) (k0:Kp (one pb) w0 w) (at_:Int):
  Calls Tryz.prog 217 #[ptr pb,nodeV 35 0 nilS nilS nilS 0,.int .i64 at_] w fun r w'=>Told w0 w w' pb 35 (globalM E G 35 σ).1 r∧PSt w' pb E (globalM E G 35 σ).2∧Kp (one pb) w w':=by
 have hM:globalM E G 35 σ=(if badM (uM E ((G.globs.length:Int) -1) σ).2 then ({n:=0,labels:=[],value:=0,take:=[],put:=[],ok:=false},(uM E ((G.globs.length:Int) -1) σ).2)else
  ({n:=(uM E ((G.globs.length:Int) -1) σ).1,labels:=[],value:=0,take:=[],put:=[(G.globs.getD (uM E ((G.globs.length:Int) -1) σ).1 (0,0,0)).1],ok:=true},(uM E ((G.globs.length:Int) -1) σ).2)):=rfl
 generalize globalM E G 35 σ=R at *
 have hE:=hE0.kp k0
 have HS:=hide h
 have hpb:=h.lt
 obtain⟨i,err,pl,hi,hb,-,-⟩:=h.obj
 obtain⟨hc,-⟩:=cells_of hb
 have hle:=u_le E ((G.globs.length:Int) -1) σ
 have hu:=fun(W:World) (hW:PSt W pb E σ)=>u_any hW ((G.globs.length:Int) -1)
 have hL:=hE.gloL
 generalize(uM E ((G.globs.length:Int) -1) σ).1=n at *
 generalize(uM E ((G.globs.length:Int) -1) σ).2=σ1 at *
 have Hu:=hide hu
 have HM:=hide hM
 have Hle:=hide hle
 obtain⟨mb,tv,fv,gv,pages,hm,hmp,hmb,-,hg⟩:=hE.mod
 have hmlt:=lt_of_blk hmb
 obtain⟨cells,hrow,hcells⟩:=hg.row
 obtain⟨ad,cap,rfl,hcap⟩:=hrow.shape
 obtain⟨hcm,-⟩:=cells_of hmb
 rw[hm]at hc
 have Hm:=hide hm
 have HR:=hide hrow
 have HC:=hide hcells
 have HMB:=hide hmb
 have HGS:=hide hg.sep
 clear h hu hb hM hle hE hm hrow hcells hmb hg hE0 k0
 have h6:=six w (.cells #[.int .u8 (35:Nat),.int .u64 0,nilS,nilS,nilS,.int .i64 0] 309) (.cells #[.int .u8 0,.int .u64 0,nilS,nilS,nilS,.int .i64 0] 309) (.cells #[.int .u8 127] 5) (.cells #[.int .u8 126] 5) (.cells #[.int .u8 127,.int .u8 127] 5) (.cells #[.int .u8 126,.int .u8 126] 5)
 have h60:=six0 w (.cells #[.int .u8 (35:Nat),.int .u64 0,nilS,nilS,nilS,.int .i64 0] 309) (.cells #[.int .u8 0,.int .u64 0,nilS,nilS,nilS,.int .i64 0] 309) (.cells #[.int .u8 127] 5) (.cells #[.int .u8 126] 5) (.cells #[.int .u8 127,.int .u8 127] 5) (.cells #[.int .u8 126,.int .u8 126] 5)
 have H6:=hide h6
 have H60:=hide h60
 clear h6 h60
 have hsx:=fun a0 a1 a2 a3 a4 a5 o=>six_cell hpb a0 a1 a2 a3 a4 a5 o
 have hsm:=fun a0 a1 a2 a3 a4 a5 o=>six_cell hmlt a0 a1 a2 a3 a4 a5 o
 go_enter Tryz.func217,Tryz.ntmps217
 go_wp2_with fail
 refine(Hu.out _ (HS.out.no (by exact H6.out.2))).mono ?_
 rintro e w1 ⟨rfl,h1,k1⟩
 have H1:=hide h1
 obtain⟨hc0,hf0⟩:=cells_of (k1.blk H60.out.1 (by unfold one;omega))
 obtain⟨hc1,hf1⟩:=cells_of (k1.blk H60.out.2 (by unfold one;omega))
 obtain⟨i1,err1,pl1,hi1,hb1,-,-⟩:=h1.obj
 obtain⟨hcp,-⟩:=cells_of hb1
 rw[Hm.out]at hcp
 have hlt0:w.heap.size<w1.heap.size:=by have :=k1.size;simp at this;omega
 have hlt1:w.heap.size+1<w1.heap.size:=by have :=k1.size;simp at this;omega
 have k01:Kp (one pb) w w1:=H6.out.2.any.trans k1
 obtain⟨hcm1,-⟩:=cells_of (k01.blk HMB.out hmp)
 have hpb1:pb<w1.heap.size:=by omega
 have hmlt1:mb<w1.heap.size:=by omega
 clear h1 hb1 hc hsx hsm hcm
 have hM:=HM.out
 by_cases hbd:badM σ1=true
 ·rw[if_pos hbd]at hM
  have HM1:=hide hM
  clear hM HM
  go_wp2_with fail
  refine(bad_any H1.out).mono ?_
  rintro e w2 ⟨rfl,rfl⟩
  go_wp2
  refine bodyPost_ret (v:= .tuple #[nodeV 35 0 nilS nilS nilS 0,nilS,nilS,.bool false]) (by simp[results,Tryz.results217,go_sem,hc1]) rfl ?_
  have kf:=fin6 w2 w.heap.size (w.heap.size+1) (.int .u8 35) (.int .u64 0) nilS nilS nilS (.int .i64 0)
  rw[HM1.out]
  exact⟨⟨nilS,_,_,rfl,labNil _ _ _,heldNil _ _ _ _,heldNil _ _ _ _⟩,H1.out.keep kf (fun k hk=>by unfold two;omega),k01.comp kf (fun _ _ h=>h) (fun k hk h=>by unfold two at h;omega)⟩
 ·rw[if_neg hbd]at hM
  have HM1:=hide hM
  clear hM HM
  simp only[Bool.not_eq_true]at hbd
  have hn:=Hle.out hbd
  have hn1:n<G.globs.length:=by omega
  have hgd:G.globs[n]? =some (G.globs.getD n (0,0,0)):=by simp[List.getD,List.getElem?_eq_getElem hn1]
  obtain⟨c1,c2,-⟩:=HC.out n _ hgd
  obtain⟨a0,o0,cap0,hv0,_,hcell0⟩:=HR.out.get c1
  cases hv0
  have halt:a0<w.heap.size:=lt_of_cell hcell0
  have hr1:=HR.out.kp k01 (fun b hb e=>HGS.out b hb e)
  obtain⟨a,o,cap',hv,_,hcell1⟩:=hr1.get c1
  obtain⟨a',o',cap'',hv',_,hcell2⟩:=hr1.get c2
  cases hv
  cases hv'
  rw[←Nat.add_assoc]at hcell2
  have hM:=HM1.out
  generalize G.globs.getD n (0,0,0)=g at *
  have HM2:=hide hM
  have hane:a0≠w.heap.size:=by omega
  have hane1:a0≠w.heap.size+1:=by omega
  have hane2:a0<w1.heap.size:=by omega
  clear hM HM1 c1 c2 hgd hr1 hcell0
  go_wp2_with fail
  refine(bad_any H1.out).mono ?_
  rintro e w2 ⟨rfl,rfl⟩
  go_wp2
  refine bodyPost_ret (v:= .tuple #[nodeV 35 n nilS nilS nilS 0,nilS,.slice (some ⟨w2.heap.size,0,none⟩) 1 1,.bool true]) (by simp[results,Tryz.results217,go_sem,hc1,hlt1]) rfl ?_
  have kf':=fin8 w2 w.heap.size (w.heap.size+1) (.cells #[.int .u8 g.1.toNat] 5) (.int .u64 n) (.int .u8 35) (.int .u64 n) nilS nilS nilS (.int .i64 0)
  have kf:=kf'.1
  rw[HM2.out]
  exact⟨⟨nilS,_,_,rfl,labNil _ _ _,heldNil _ _ _ _,heldNew hpb (BytesAt.blk (l:=[g.1]) kf'.2) (by omega)⟩,H1.out.keep kf (fun k hk=>by unfold two;omega),k01.comp kf (fun _ _ h=>h) (fun k hk h=>by unfold two at h;omega)⟩

theorem plain_36 {w0 w:World} {pb:Nat} {E:PE} {G:Env} {σ:PS} (h:PSt w pb E σ) (hE0:EnvAt w0 pb E G) (k0:Kp (one pb) w0 w) (at_:Int):
  Calls Tryz.prog 217 #[ptr pb,nodeV 36 0 nilS nilS nilS 0,.int .i64 at_] w fun r w'=>Told w0 w w' pb 36 (globalM E G 36 σ).1 r∧PSt w' pb E (globalM E G 36 σ).2∧Kp (one pb) w w':=by
 have hM:globalM E G 36 σ=(if badM (uM E ((G.globs.length:Int) -1) σ).2 then ({n:=0,labels:=[],value:=0,take:=[],put:=[],ok:=false},(uM E ((G.globs.length:Int) -1) σ).2)else
  ({n:=(uM E ((G.globs.length:Int) -1) σ).1,labels:=[],value:=0,take:=[(G.globs.getD (uM E ((G.globs.length:Int) -1) σ).1 (0,0,0)).1],put:=[],ok:=(G.globs.getD (uM E ((G.globs.length:Int) -1) σ).1 (0,0,0)).2.1==1},(uM E ((G.globs.length:Int) -1) σ).2)):=rfl
 generalize globalM E G 36 σ=R at *
 have hE:=hE0.kp k0
 have HS:=hide h
 have hpb:=h.lt
 obtain⟨i,err,pl,hi,hb,-,-⟩:=h.obj
 obtain⟨hc,-⟩:=cells_of hb
 have hle:=u_le E ((G.globs.length:Int) -1) σ
 have hu:=fun(W:World) (hW:PSt W pb E σ)=>u_any hW ((G.globs.length:Int) -1)
 have hL:=hE.gloL
 generalize(uM E ((G.globs.length:Int) -1) σ).1=n at *
 generalize(uM E ((G.globs.length:Int) -1) σ).2=σ1 at *
 have Hu:=hide hu
 have HM:=hide hM
 have Hle:=hide hle
 obtain⟨mb,tv,fv,gv,pages,hm,hmp,hmb,-,hg⟩:=hE.mod
 have hmlt:=lt_of_blk hmb
 obtain⟨cells,hrow,hcells⟩:=hg.row
 obtain⟨ad,cap,rfl,hcap⟩:=hrow.shape
 obtain⟨hcm,-⟩:=cells_of hmb
 rw[hm]at hc
 have Hm:=hide hm
 have HR:=hide hrow
 have HC:=hide hcells
 have HMB:=hide hmb
 have HGS:=hide hg.sep
 clear h hu hb hM hle hE hm hrow hcells hmb hg hE0 k0
 have h6:=six w (.cells #[.int .u8 (36:Nat),.int .u64 0,nilS,nilS,nilS,.int .i64 0] 309) (.cells #[.int .u8 0,.int .u64 0,nilS,nilS,nilS,.int .i64 0] 309) (.cells #[.int .u8 127] 5) (.cells #[.int .u8 126] 5) (.cells #[.int .u8 127,.int .u8 127] 5) (.cells #[.int .u8 126,.int .u8 126] 5)
 have h60:=six0 w (.cells #[.int .u8 (36:Nat),.int .u64 0,nilS,nilS,nilS,.int .i64 0] 309) (.cells #[.int .u8 0,.int .u64 0,nilS,nilS,nilS,.int .i64 0] 309) (.cells #[.int .u8 127] 5) (.cells #[.int .u8 126] 5) (.cells #[.int .u8 127,.int .u8 127] 5) (.cells #[.int .u8 126,.int .u8 126] 5)
 have H6:=hide h6
 have H60:=hide h60
 clear h6 h60
 have hsx:=fun a0 a1 a2 a3 a4 a5 o=>six_cell hpb a0 a1 a2 a3 a4 a5 o
 have hsm:=fun a0 a1 a2 a3 a4 a5 o=>six_cell hmlt a0 a1 a2 a3 a4 a5 o
 go_enter Tryz.func217,Tryz.ntmps217
 go_wp2_with fail
 refine(Hu.out _ (HS.out.no (by exact H6.out.2))).mono ?_
 rintro e w1 ⟨rfl,h1,k1⟩
 have H1:=hide h1
 obtain⟨hc0,hf0⟩:=cells_of (k1.blk H60.out.1 (by unfold one;omega))
 obtain⟨hc1,hf1⟩:=cells_of (k1.blk H60.out.2 (by unfold one;omega))
 obtain⟨i1,err1,pl1,hi1,hb1,-,-⟩:=h1.obj
 obtain⟨hcp,-⟩:=cells_of hb1
 rw[Hm.out]at hcp
 have hlt0:w.heap.size<w1.heap.size:=by have :=k1.size;simp at this;omega
 have hlt1:w.heap.size+1<w1.heap.size:=by have :=k1.size;simp at this;omega
 have k01:Kp (one pb) w w1:=H6.out.2.any.trans k1
 obtain⟨hcm1,-⟩:=cells_of (k01.blk HMB.out hmp)
 have hpb1:pb<w1.heap.size:=by omega
 have hmlt1:mb<w1.heap.size:=by omega
 clear h1 hb1 hc hsx hsm hcm
 have hM:=HM.out
 by_cases hbd:badM σ1=true
 ·rw[if_pos hbd]at hM
  have HM1:=hide hM
  clear hM HM
  go_wp2_with fail
  refine(bad_any H1.out).mono ?_
  rintro e w2 ⟨rfl,rfl⟩
  go_wp2
  refine bodyPost_ret (v:= .tuple #[nodeV 36 0 nilS nilS nilS 0,nilS,nilS,.bool false]) (by simp[results,Tryz.results217,go_sem,hc1]) rfl ?_
  have kf:=fin6 w2 w.heap.size (w.heap.size+1) (.int .u8 36) (.int .u64 0) nilS nilS nilS (.int .i64 0)
  rw[HM1.out]
  exact⟨⟨nilS,_,_,rfl,labNil _ _ _,heldNil _ _ _ _,heldNil _ _ _ _⟩,H1.out.keep kf (fun k hk=>by unfold two;omega),k01.comp kf (fun _ _ h=>h) (fun k hk h=>by unfold two at h;omega)⟩
 ·rw[if_neg hbd]at hM
  have HM1:=hide hM
  clear hM HM
  simp only[Bool.not_eq_true]at hbd
  have hn:=Hle.out hbd
  have hn1:n<G.globs.length:=by omega
  have hgd:G.globs[n]? =some (G.globs.getD n (0,0,0)):=by simp[List.getD,List.getElem?_eq_getElem hn1]
  obtain⟨c1,c2,-⟩:=HC.out n _ hgd
  obtain⟨a0,o0,cap0,hv0,_,hcell0⟩:=HR.out.get c1
  cases hv0
  have halt:a0<w.heap.size:=lt_of_cell hcell0
  have hr1:=HR.out.kp k01 (fun b hb e=>HGS.out b hb e)
  obtain⟨a,o,cap',hv,_,hcell1⟩:=hr1.get c1
  obtain⟨a',o',cap'',hv',_,hcell2⟩:=hr1.get c2
  cases hv
  cases hv'
  rw[←Nat.add_assoc]at hcell2
  have hM:=HM1.out
  generalize G.globs.getD n (0,0,0)=g at *
  have HM2:=hide hM
  have hane:a0≠w.heap.size:=by omega
  have hane1:a0≠w.heap.size+1:=by omega
  have hane2:a0<w1.heap.size:=by omega
  clear hM HM1 c1 c2 hgd hr1 hcell0
  have hq:=u8_eq g.2.1 1
  rw[show(((1:UInt8).toNat:Nat):Int)=1 from rfl]at hq
  go_wp2_with fail
  refine(bad_any H1.out).mono ?_
  rintro e w2 ⟨rfl,rfl⟩
  go_wp2
  go_region
  go_wp2
  refine bodyPost_ret (v:= .tuple #[nodeV 36 n nilS nilS nilS 0,.slice (some ⟨w2.heap.size,0,none⟩) 1 1,nilS,.bool (g.2.1==1)]) (by simp[results,Tryz.results217,go_sem,hc1,hlt1]) rfl ?_
  have kf':=fin8 w2 w.heap.size (w.heap.size+1) (.cells #[.int .u8 g.1.toNat] 5) (.int .u64 n) (.int .u8 36) (.int .u64 n) nilS nilS nilS (.int .i64 0)
  have kf:=kf'.1.drew
  rw[HM2.out]
  exact⟨⟨nilS,_,_,rfl,labNil _ _ _,heldNew hpb (BytesAt.blk (l:=[g.1]) kf'.2) (by omega),heldNil _ _ _ _⟩,H1.out.keep kf (fun k hk=>by unfold two;omega),k01.comp kf (fun _ _ h=>h) (fun k hk h=>by unfold two at h;omega)⟩

end Go.Proofs.YtdeplgkhmebalaaGreatDoor.Rf

set_option linter.unusedSimpArgs false
set_option linter.unusedVariables false
namespace Go.Proofs.YtdeplgkhmebalaaGreatDoor.Rf
open Go.RowKit

def memTP (op:Nat):List UInt8×List UInt8:=
 if op=41 then ([127],[126])else if op=54∨op=58 then ([127,127],[])else if op=55 then ([127,126],[])else ([127],[127])

def plainM (E:PE) (G:Env) (op:Nat) (σ:PS):IR×PS:=
 if 32≤op∧op≤34 then localM E G op σ
 else if op=35∨op=36 then globalM E G op σ
 else if 40≤op∧op≤58 then ({n:=(uM E 4294967295 σ).1,labels:=[],value:=0,take:=(memTP op).1,put:=(memTP op).2,ok:=true},(uM E 4294967295 σ).2)
 else if op=65 then ({n:=(sM E 32 σ).1,labels:=[],value:=0,take:=[],put:=[127],ok:=true},(sM E 32 σ).2)
 else if op=66 then ({n:=(sM E 64 σ).1,labels:=[],value:=0,take:=[],put:=[126],ok:=true},(sM E 64 σ).2)
 else ({n:=0,labels:=[],value:=0,take:=(plain0 op).1,put:=(plain0 op).2,ok:=true},σ)

def plainOp (op:Nat):Prop:=
 (32≤op∧op≤36)∨op=40∨op=41∨op=44∨op=45∨op=54∨op=55∨op=58∨(63≤op∧op≤66)∨(69≤op∧op≤90)∨(103≤op∧op≤138)∨op=167∨op=172∨op=173∨op=224∨op=225

theorem plainM_mem (E:PE) (G:Env) (op:Nat) (σ:PS) (h:40≤op∧op≤58):plainM E G op σ=({n:=(uM E 4294967295 σ).1,labels:=[],value:=0,take:=(memTP op).1,put:=(memTP op).2,ok:=true},(uM E 4294967295 σ).2):=by
 unfold plainM
 rw[if_neg (by omega),if_neg (by omega),if_pos h]
theorem plainM_0 (E:PE) (G:Env) (op:Nat) (σ:PS) (h:63≤op) (h5:op≠65) (h6:op≠66) (t p:List UInt8) (htp:plain0 op=(t,p)):plainM E G op σ=({n:=0,labels:=[],value:=0,take:=t,put:=p,ok:=true},σ):=by
 unfold plainM
 rw[if_neg (by omega),if_neg (by omega),if_neg (by omega),if_neg h5,if_neg h6,htp]

theorem plain_any {w0 w:World} {pb:Nat} {E:PE} {G:Env} {σ:PS} (h:PSt w pb E σ) (hE:EnvAt w0 pb E G) (k0:Kp (one pb) w0 w) (at_:Int) (op:Nat) (hop:plainOp op):
  Calls Tryz.prog 217 #[ptr pb,nodeV op 0 nilS nilS nilS 0,.int .i64 at_] w fun r w'=>Told w0 w w' pb op (plainM E G op σ).1 r∧PSt w' pb E (plainM E G op σ).2∧Kp (one pb) w w':=by
 have hd:op=32∨op=33∨op=34∨op=35∨op=36∨op=40∨op=41∨op=44∨op=45∨op=54∨op=55∨op=58∨op=63∨op=64∨op=65∨op=66∨op=69∨(70≤op∧op≤79)∨op=80∨(81≤op∧op≤90)∨(103≤op∧op≤105)∨(106≤op∧op≤120)∨(121≤op∧op≤123)∨(124≤op∧op≤138)∨op=167∨op=172∨op=173∨op=224∨op=225:=by
  unfold plainOp at hop;omega
 clear hop
 rcases hd with rfl |rfl |rfl |rfl |rfl |rfl |rfl |rfl |rfl |rfl |rfl |rfl |rfl |rfl |rfl |rfl |rfl |hr|rfl |hr|hr|hr|hr|hr|rfl |rfl |rfl |rfl |rfl
 ·exact plain_32 h hE k0 at_
 ·exact plain_33 h hE k0 at_
 ·exact plain_34 h hE k0 at_
 ·exact plain_35 h hE k0 at_
 ·exact plain_36 h hE k0 at_
 ·rw[plainM_mem E G _ σ (by decide)];exact plain_40 h at_
 ·rw[plainM_mem E G _ σ (by decide)];exact plain_41 h at_
 ·rw[plainM_mem E G _ σ (by decide)];exact plain_44 h at_
 ·rw[plainM_mem E G _ σ (by decide)];exact plain_45 h at_
 ·rw[plainM_mem E G _ σ (by decide)];exact plain_54 h at_
 ·rw[plainM_mem E G _ σ (by decide)];exact plain_55 h at_
 ·rw[plainM_mem E G _ σ (by decide)];exact plain_58 h at_
 ·rw[plainM_0 E G _ σ (by decide) (by decide) (by decide) [] [127] (by decide)];exact plain_a h at_
 ·rw[plainM_0 E G _ σ (by decide) (by decide) (by decide) [127] [127] (by decide)];exact plain_b h at_
 ·exact plain_65 h at_
 ·exact plain_66 h at_
 ·rw[plainM_0 E G _ σ (by decide) (by decide) (by decide) [127] [127] (by decide)];exact plain_c h at_
 ·rw[plainM_0 E G _ σ (by omega) (by omega) (by omega) [127,127] [127] (by unfold plain0;rw[if_neg (by omega),if_neg (by omega),if_pos (by omega)])];exact plain_e h at_ op hr.1 hr.2
 ·rw[plainM_0 E G _ σ (by decide) (by decide) (by decide) [126] [127] (by decide)];exact plain_g h at_
 ·rw[plainM_0 E G _ σ (by omega) (by omega) (by omega) [126,126] [127] (by unfold plain0;rw[if_neg (by omega),if_neg (by omega),if_neg (by omega),if_neg (by omega),if_pos (by omega)])];exact plain_j h at_ op hr.1 hr.2
 ·rw[plainM_0 E G _ σ (by omega) (by omega) (by omega) [127] [127] (by unfold plain0;rw[if_neg (by omega),if_pos (by omega)])];exact plain_d h at_ op hr.1 hr.2
 ·rw[plainM_0 E G _ σ (by omega) (by omega) (by omega) [127,127] [127] (by unfold plain0;rw[if_neg (by omega),if_neg (by omega),if_pos (by omega)])];exact plain_f h at_ op hr.1 hr.2
 ·rw[plainM_0 E G _ σ (by omega) (by omega) (by omega) [126] [126] (by unfold plain0;rw[if_neg (by omega),if_neg (by omega),if_neg (by omega),if_neg (by omega),if_neg (by omega),if_pos (by omega)])];exact plain_k h at_ op hr.1 hr.2
 ·rw[plainM_0 E G _ σ (by omega) (by omega) (by omega) [126,126] [126] (by unfold plain0;rw[if_neg (by omega),if_neg (by omega),if_neg (by omega),if_neg (by omega),if_neg (by omega),if_neg (by omega),if_pos (by omega)])];exact plain_m h at_ op hr.1 hr.2
 ·rw[plainM_0 E G _ σ (by decide) (by decide) (by decide) [126] [127] (by decide)];exact plain_h h at_
 ·rw[plainM_0 E G _ σ (by decide) (by decide) (by decide) [127] [126] (by decide)];exact plain_n h at_
 ·rw[plainM_0 E G _ σ (by decide) (by decide) (by decide) [127] [126] (by decide)];exact plain_n2 h at_
 ·rw[plainM_0 E G _ σ (by decide) (by decide) (by decide) [126] [126] (by decide)];exact plain_l h at_
 ·rw[plainM_0 E G _ σ (by decide) (by decide) (by decide) [126,126] [] (by decide)];exact plain_o h at_

end Go.Proofs.YtdeplgkhmebalaaGreatDoor.Rf

set_option linter.unusedSimpArgs false
set_option linter.unusedVariables false
set_option maxHeartbeats 2000000
set_option maxRecDepth 100000
namespace Go.Proofs.YtdeplgkhmebalaaGreatDoor.Rf
open Go.RowKit

theorem info_int:(Tryz.prog.info? 3).map (fun i=>(i.zero,i.size,i.bytes))=some (some (.int .i64 0),1,8):=by kernel_rfl
theorem info_int': ∃i,Tryz.prog.info? 3=some i∧i.zero=some (.int .i64 0)∧i.size=1∧i.bytes=8:=info_parts info_int

def tabGo (E:PE) (labels:List (List UInt8)):Nat→Nat→List UInt8→Bool→List Int→PS→(List UInt8×Bool×List Int)×PS
 |0,_,first,same,labs,σ=>((first,same,labs),σ)
 |r+1,k,first,same,labs,σ=>
  if badM σ then ((first,same,labs),σ)else
  let x:=labelM E labels σ
  let first':=if k=0 then x.1.2 else first
  tabGo E labels r (k+1) first' (same&&decide (first'=x.1.2)) (labs++[(x.1.1:Int)]) x.2
def tableM (E:PE) (labels:List (List UInt8)) (σ:PS):IR×PS:=
 let u:=uM E 16 σ
 let r:=tabGo E labels (u.1+1) 0 [] true [] u.2
 ({n:=0,labels:=r.1.2.2,value:=r.1.1.length,take:=r.1.1++[127],put:=r.1.1,ok:=r.1.2.1},r.2)

theorem label_len {E:PE} {labels:List (List UInt8)} {σ:PS} (h: ∀l∈labels,l.length≤1000):(labelM E labels σ).1.2.length≤1000:=by
 unfold labelM
 simp only
 split
 ·simp
 ·simp only[List.getD]
  cases hq:labels[labels.length -1 - (uM E ((labels.length:Int) -1) σ).1]? with
  |none=>simp
  |some l=>exact h l (List.mem_of_getElem? hq)

theorem table_any {w0 w:World} {pb:Nat} {E:PE} {σ:PS} (h:PSt w pb E σ) {lv:Value} {labels:List (List UInt8)} (hl:LabelsAt w0 pb lv labels) (k0:Kp (one pb) w0 w) (hn:labels.length≤1000) (hll: ∀l∈labels,l.length≤1000):
  Calls Tryz.prog 216 #[ptr pb,nodeV 14 0 nilS nilS nilS 0,lv] w fun r w'=>Told w0 w w' pb 14 (tableM E labels σ).1 r∧PSt w' pb E (tableM E labels σ).2∧Kp (one pb) w w':=by
 have hM:tableM E labels σ=({n:=0,labels:=(tabGo E labels ((uM E 16 σ).1+1) 0 [] true [] (uM E 16 σ).2).1.2.2,value:=(tabGo E labels ((uM E 16 σ).1+1) 0 [] true [] (uM E 16 σ).2).1.1.length,take:=(tabGo E labels ((uM E 16 σ).1+1) 0 [] true [] (uM E 16 σ).2).1.1++[127],put:=(tabGo E labels ((uM E 16 σ).1+1) 0 [] true [] (uM E 16 σ).2).1.1,ok:=(tabGo E labels ((uM E 16 σ).1+1) 0 [] true [] (uM E 16 σ).2).1.2.1},(tabGo E labels ((uM E 16 σ).1+1) 0 [] true [] (uM E 16 σ).2).2):=rfl
 generalize tableM E labels σ=R at *
 have HS:=hide h
 have hpb:=h.lt
 have hbd:=u_bd E 16 σ (by decide)
 have hu:=fun(W:World) (hW:PSt W pb E σ)=>u_any hW 16
 generalize(uM E 16 σ).1=n at *
 generalize(uM E 16 σ).2=σ1 at *
 generalize hT:tabGo E labels (n+1) 0 [] true [] σ1=T at *
 have HT:=hide hT
 have Hu:=hide hu
 have HM:=hide hM
 have HL:=hide hl
 have HK0:=hide k0
 have HLL:=hide hll
 obtain⟨i0,hi0,hz0,hz1,hz2⟩:=info_int'
 obtain⟨i1,hi1,hy0,hy1,hy2⟩:=info_u8'
 clear h hu hM hl hll hT k0
 go_enter Tryz.func216,Tryz.ntmps216
 go_wp2_with fail
 refine(Hu.out _ (HS.out.no (((Kp.refl no w).alloc _).alloc _))).mono ?_
 rintro e w1 ⟨rfl,h1,k1⟩
 have hb0:w1.heap[w.heap.size]? =some (.cells #[.int .u8 14,.int .u64 0,nilS,nilS,nilS,.int .i64 0] 309):=k1.blk (heap_alloc_old (heap_alloc_at _ rfl)) (by unfold one;omega)
 have hb1:w1.heap[w.heap.size+1]? =some (.cells #[.int .u8 0,.int .u64 0,nilS,nilS,nilS,.int .i64 0] 309):=k1.blk (heap_alloc_at _ (by simp)) (by unfold one;omega)
 have k01:Kp (one pb) w w1:=Kp.trans (((Kp.refl (one pb) w).alloc _).alloc _) k1
 have H1:=hide h1
 have HB0:=hide hb0
 have HB1:=hide hb1
 have HK1:=hide k01
 have hlt1:w.heap.size+1<w1.heap.size:=lt_of_blk hb1
 clear h1 hb0 hb1 k1 k01
 go_wp2
 go_loopw [11,12,13] (fun sv fv kv wr=> ∃(k:Nat) (first :List UInt8) (same:Bool) (labs:List Int) (σ':PS) (labv:Value),k≤n+1∧kv= .int .i64 k∧sv= .bool same∧BytesAt w0 fv first ∧Sep pb fv∧first.length≤1000∧
   wr.heap[w.heap.size]? =some (.cells #[.int .u8 14,.int .u64 0,labv,nilS,nilS,.int .i64 0] 309)∧wr.heap[w.heap.size+1]? =some (.cells #[.int .u8 0,.int .u64 0,nilS,nilS,nilS,.int .i64 0] 309)∧
   wr.ownsRow (w.heap.size+2) 3 1 labv labs.length (labs.map (Value.int .i64))∧labs.length=k∧PSt wr pb E σ'∧Kp (one pb) w wr∧tabGo E labels (n+1 -k) k first same labs σ'=T) (fun _ _ kv _=>n+1 - (intOf kv).toNat)
 case atStart=>exact⟨0,[],true,[],σ1,nilS,by omega,rfl,rfl,BytesAt.nil _,Sep.nil _,by simp,HB0.out,HB1.out,World.ownsRow_nil _ _ _ _,rfl,H1.out,HK1.out,HT.out⟩
 case round=>
  obtain⟨k,first,same,labs,σ',labv,hk,rfl,rfl,hbf,hsf,hlf,hb0,hb1,hown,hlk,hst,hkp,hgo⟩:=hrel
  have HBF:=hide hbf
  have HSF:=hide hsf
  have HLF:=hide hlf
  have HB0:=hide hb0
  have HB1:=hide hb1
  have HO:=hide hown
  have HLK:=hide hlk
  have HST:=hide hst
  have HKP:=hide hkp
  have HGO:=hide hgo
  obtain⟨adf,capf,rfl,hcf⟩:=hbf.shape
  obtain⟨hc0,hf0⟩:=cells_of hb0
  obtain⟨hc1,hf1⟩:=cells_of hb1
  obtain⟨adl,capl,rfl⟩:=own_shape hown
  have hltr:w.heap.size+1<wr.heap.size:=lt_of_blk hb1
  clear hbf hsf hlf hb0 hb1 hown hlk hst hkp hgo
  by_cases hgoon:k<n+1∧badM σ'=false
  ·obtain⟨hkn,hbd⟩:=hgoon
   have hg:=HGO.out
   rw[show n+1 -k=(n -k)+1 by omega,tabGo]at hg
   rw[if_neg (by simp[hbd])]at hg
   have Hbd:=hide hbd
   go_wp2_with fail
   refine(bad_any HST.out).mono ?_
   rintro e w2 ⟨rfl,rfl⟩
   go_wp2_with fail
   refine(label_any HST.out HL.out (HK0.out.trans HKP.out) hn).mono ?_
   rintro e w3 ⟨lv3,rfl,hbl,hsl,h3,k3⟩
   have hllen:=label_len (E:=E) (σ:=σ') HLL.out
   generalize(labelM E labels σ').1.1=ln at *
   generalize(labelM E labels σ').1.2=ll at *
   generalize(labelM E labels σ').2=σ3 at *
   obtain⟨ad3,cap3,rfl,hc3⟩:=hbl.shape
   have HBL:=hide hbl
   have HSL:=hide hsl
   have hlf:=HLF.out
   by_cases hk0:k=0
   ·have hkb:((k:Int)==0)=true:=by simp;omega
    simp only[if_pos hk0]at hg
    have HG:=hide hg
    have HBF':=HBL
    have HSF':=HSL
    have Hk0:=hide hk0
    clear hg hk0
    have HB03:=hide (k3.blk HB0.out (show ¬one pb w.heap.size by unfold one;omega))
    have HB13:=hide (k3.blk HB1.out (show ¬one pb (w.heap.size+1)by unfold one;omega))
    have HO3:=hide (k3.own HO.out (fun b hb e=>by have :=own_new HO.out b hb;unfold one at e;omega))
    have HK3:=hide (HKP.out.trans k3)
    have HS3:=hide h3
    clear hbl hsl h3
    go_wp2_with fail
    refine(equal_any (HBF'.out.one HSF'.out (HK0.out.trans HK3.out)) (HBL.out.one HSL.out (HK0.out.trans HK3.out)) (by omega)).mono ?_
    rintro e w4 ⟨rfl,k4⟩
    have HB04:=hide (k4.blk HB03.out (fun h=>h))
    have HB14:=hide (k4.blk HB13.out (fun h=>h))
    have HO4:=hide (k4.own HO3.out (fun b hb h=>h))
    obtain⟨hc0,hf0⟩:=cells_of HB04.out
    obtain⟨hc1,hf1⟩:=cells_of HB14.out
    have hlt4:w.heap.size+1<w4.heap.size:=lt_of_blk HB14.out
    have hlt40:w.heap.size<w4.heap.size:=by omega
    have hM5:w4.heap.size+2≤w4.heap.size+2:=by omega
    cases same
    all_goals
     go_wp2_with(at_builtin;refine wpList_append_row _ rfl _ _ 44 rfl (w.heap.size+2) 3 i0 (.int .i64 0) 1 8 Tryz.underlying44 hi0 hz0 hz1 hz2 rfl (by decide) _ _ _ rfl (HO4.out.alloc _) _ 1 [.int .i64 ln] rfl (RowAt.new _ _ _) (one_oneCell rfl) ?c3 ?c4 ?c5 ?_)
     case c3=>unfold maxLen;rw[HLK.out];omega
     case c4=>rw[HLK.out];omega
     case c5=>simp;omega
     intro v' w5 hown5 hgrow5
     obtain⟨ad5,cap5,rfl⟩:=own_shape hown5
     have HO5:=hide hown5
     have kw:Kp (fun k=>w.heap.size+2≤k) w4 w5:=((Kp.refl (fun k=>w.heap.size+2≤k) w4).alloc _).grown hgrow5 (fun k hk=> .inl (own_new HO4.out k hk))
     have HB05:=hide (kw.blk HB04.out (by omega))
     have HB15:=hide (kw.blk HB14.out (by omega))
     obtain⟨hc05,hf05⟩:=cells_of HB05.out
     obtain⟨hc15,hf15⟩:=cells_of HB15.out
     have hlt5:w.heap.size+1<w5.heap.size:=lt_of_blk HB15.out
     clear hown5 hgrow5 hc0 hc1 hf0 hf1
     go_wp2
     go_roundw
     case rel=>
      refine⟨k+1,ll,_,labs++[(ln:Int)],σ3,.slice ad5 (labs.length+1) cap5,by omega,by go_num,rfl,HBF'.out,HSF'.out,by omega,?_,?_,?_,?_,?_,?_,?_⟩
      ·exact heap_setCell HB05.out _
      ·exact heap_setCell_ne (by omega) _ HB15.out
      ·have :=(Kp.setAt (Kp.refl (fun k=>k=w.heap.size) w5) rfl 2 (.slice ad5 (labs.length+1) cap5)).own HO5.out (fun b hb e=>by have :=own_new HO5.out b hb;omega)
       simpa using this
      ·simp[HLK.out]
      ·exact((HS3.out.no k4).keep kw (fun k hk=>by omega)).keep (Kp.setAt (Kp.refl (fun k=>k=w.heap.size) w5) rfl 2 (.slice ad5 (labs.length+1) cap5)) (fun k hk=>by omega)
      ·exact(((HK3.out.then k4).comp kw (fun _ _ h=>h) (fun k hk h=>by omega)).comp (Kp.setAt (Kp.refl (fun k=>k=w.heap.size) w5) rfl 2 (.slice ad5 (labs.length+1) cap5)) (fun _ _ h=>h) (fun k hk h=>by omega))
      ·rw[←HG.out,show n+1 - (k+1)=n -k by omega];simp
     case measure=>simp[intOf];omega
   ·have hkb:((k:Int)==0)=false:=by simp;omega
    simp only[if_neg hk0]at hg
    have HG:=hide hg
    have HBF':=HBF
    have HSF':=HSF
    have Hk0:=hide hk0
    clear hg hk0
    have HB03:=hide (k3.blk HB0.out (show ¬one pb w.heap.size by unfold one;omega))
    have HB13:=hide (k3.blk HB1.out (show ¬one pb (w.heap.size+1)by unfold one;omega))
    have HO3:=hide (k3.own HO.out (fun b hb e=>by have :=own_new HO.out b hb;unfold one at e;omega))
    have HK3:=hide (HKP.out.trans k3)
    have HS3:=hide h3
    clear hbl hsl h3
    go_wp2_with fail
    refine(equal_any (HBF'.out.one HSF'.out (HK0.out.trans HK3.out)) (HBL.out.one HSL.out (HK0.out.trans HK3.out)) (by omega)).mono ?_
    rintro e w4 ⟨rfl,k4⟩
    have HB04:=hide (k4.blk HB03.out (fun h=>h))
    have HB14:=hide (k4.blk HB13.out (fun h=>h))
    have HO4:=hide (k4.own HO3.out (fun b hb h=>h))
    obtain⟨hc0,hf0⟩:=cells_of HB04.out
    obtain⟨hc1,hf1⟩:=cells_of HB14.out
    have hlt4:w.heap.size+1<w4.heap.size:=lt_of_blk HB14.out
    have hlt40:w.heap.size<w4.heap.size:=by omega
    have hM5:w4.heap.size+2≤w4.heap.size+2:=by omega
    generalize decide (first =ll)=eq at *
    cases same
    all_goals
     go_wp2_with(at_builtin;refine wpList_append_row _ rfl _ _ 44 rfl (w.heap.size+2) 3 i0 (.int .i64 0) 1 8 Tryz.underlying44 hi0 hz0 hz1 hz2 rfl (by decide) _ _ _ rfl (HO4.out.alloc _) _ 1 [.int .i64 ln] rfl (RowAt.new _ _ _) (one_oneCell rfl) ?c3 ?c4 ?c5 ?_)
     case c3=>unfold maxLen;rw[HLK.out];omega
     case c4=>rw[HLK.out];omega
     case c5=>simp;omega
     intro v' w5 hown5 hgrow5
     obtain⟨ad5,cap5,rfl⟩:=own_shape hown5
     have HO5:=hide hown5
     have kw:Kp (fun k=>w.heap.size+2≤k) w4 w5:=((Kp.refl (fun k=>w.heap.size+2≤k) w4).alloc _).grown hgrow5 (fun k hk=> .inl (own_new HO4.out k hk))
     have HB05:=hide (kw.blk HB04.out (by omega))
     have HB15:=hide (kw.blk HB14.out (by omega))
     obtain⟨hc05,hf05⟩:=cells_of HB05.out
     obtain⟨hc15,hf15⟩:=cells_of HB15.out
     have hlt5:w.heap.size+1<w5.heap.size:=lt_of_blk HB15.out
     clear hown5 hgrow5 hc0 hc1 hf0 hf1
     go_wp2
     go_roundw
     case rel=>
      refine⟨k+1,first,_,labs++[(ln:Int)],σ3,.slice ad5 (labs.length+1) cap5,by omega,by go_num,rfl,HBF'.out,HSF'.out,by omega,?_,?_,?_,?_,?_,?_,?_⟩
      ·exact heap_setCell HB05.out _
      ·exact heap_setCell_ne (by omega) _ HB15.out
      ·have :=(Kp.setAt (Kp.refl (fun k=>k=w.heap.size) w5) rfl 2 (.slice ad5 (labs.length+1) cap5)).own HO5.out (fun b hb e=>by have :=own_new HO5.out b hb;omega)
       simpa using this
      ·simp[HLK.out]
      ·exact((HS3.out.no k4).keep kw (fun k hk=>by omega)).keep (Kp.setAt (Kp.refl (fun k=>k=w.heap.size) w5) rfl 2 (.slice ad5 (labs.length+1) cap5)) (fun k hk=>by omega)
      ·exact(((HK3.out.then k4).comp kw (fun _ _ h=>h) (fun k hk h=>by omega)).comp (Kp.setAt (Kp.refl (fun k=>k=w.heap.size) w5) rfl 2 (.slice ad5 (labs.length+1) cap5)) (fun _ _ h=>h) (fun k hk h=>by omega))
      ·rw[←HG.out,show n+1 - (k+1)=n -k by omega];simp
     case measure=>simp[intOf];omega
  ·rcases Nat.lt_or_ge k (n+1)with hkn|hkn
   ·have hbd:badM σ'=true:=by cases hq:badM σ'<;>simp_all
    have hTT:=HGO.out
    rw[show n+1 -k=(n -k)+1 by omega,tabGo,if_pos hbd]at hTT
    clear hgoon
    go_wp2_with fail
    refine(bad_any HST.out).mono ?_
    rintro e w2 ⟨rfl,rfl⟩
    have hM:=HM.out
    rw[←hTT]at hM
    have HM2:=hide hM
    have hlf:=HLF.out
    clear hM hTT
    go_wp2_with(at_builtin;refine wpList_append_row _ rfl _ _ 25 rfl w2.heap.size 5 i1 (.int .u8 0) 1 1 Tryz.underlying25 hi1 hy0 hy1 hy2 rfl (by decide) _ _ _ rfl (World.ownsRow_nil _ _ _ _) _ first.length (byteVals first) rfl ?c2 (bytes_oneCell _) ?c3 ?c4 (by simp) ?_)
    case c2=>exact HBF.out.one HSF.out (HK0.out.trans (HKP.out.setNew (Nat.le_refl _) _ _))
    case c3=>unfold maxLen;omega
    case c4=>omega
    intro v6 w6 hown6 hgrow6
    have HO6:=hide hown6
    obtain⟨ad6,cap6,rfl⟩:=own_shape hown6
    have kw6:Kp (one pb) w w6:=(HKP.out.setNew (Nat.le_refl _) _ _).grown hgrow6 (fun k hk=>by cases hk)
    have k56:Kp no (w2.setCell ⟨w.heap.size,5,none⟩ (.int .i64 (first.length:Nat))) w6:=(Kp.refl no _).grown hgrow6 (fun k hk=>by cases hk)
    have HB06:=hide (k56.blk (heap_setCell HB0.out _) (fun h=>h))
    have HB16:=hide (k56.blk (heap_setCell_ne (by omega) _ HB1.out) (fun h=>h))
    have HOL6:=hide (k56.own ((Kp.setAt (Kp.refl (fun k=>k=w.heap.size) w2) rfl 5 (.int .i64 (first.length:Nat))).own HO.out (fun b hb e=>by have :=own_new HO.out b hb;omega)) (fun b hb h=>h))
    have HS6:=hide ((HST.out.keep (Kp.setAt (Kp.refl (fun k=>k=w.heap.size) w2) rfl 5 (.int .i64 (first.length:Nat))) (fun k hk=>by omega)).no k56)
    have hsz6:w2.heap.size≤w6.heap.size:=by have :=k56.size;simpa using this
    obtain⟨hc06,hf06⟩:=cells_of HB06.out
    obtain⟨hc16,hf16⟩:=cells_of HB16.out
    clear hown6 hgrow6 hc0 hc1 hf0 hf1
    go_wp2_with(at_builtin;refine wpList_append_row _ rfl _ _ 25 rfl w2.heap.size 5 i1 (.int .u8 0) 1 1 Tryz.underlying25 hi1 hy0 hy1 hy2 rfl (by decide) _ _ _ rfl (HO6.out.alloc _) _ 1 [.int .u8 127] rfl (RowAt.new _ _ _) (one_oneCell rfl) ?c3 ?c4 ?c5 ?_)
    case c3=>unfold maxLen;omega
    case c4=>omega
    case c5=>simp;omega
    intro v7 w7 hown7 hgrow7
    have HO7:=hide hown7
    obtain⟨ad7,cap7,rfl⟩:=own_shape hown7
    have kw:Kp (fun k=>w2.heap.size≤k) w6 w7:=((Kp.refl (fun k=>w2.heap.size≤k) w6).alloc _).grown hgrow7 (fun k hk=> .inl (own_new HO6.out k hk))
    obtain⟨hc07,hf07⟩:=cells_of (kw.blk HB06.out (by omega))
    obtain⟨hc17,hf17⟩:=cells_of (kw.blk HB16.out (by omega))
    have HS7:=hide (HS6.out.keep kw (fun k hk=>by omega))
    clear hown7 hgrow7 hc06 hc16 hf06 hf16
    go_wp2
    refine bodyPost_ret (v:= .tuple #[nodeV 14 0 (.slice adl labs.length capl) nilS nilS first.length,.slice ad7 (first.length+1) cap7,.slice adf first.length capf,.bool same]) (by simp[results,Tryz.results216,go_sem,hc17]) rfl ?_
    have kf:=fin6 w7 w.heap.size (w.heap.size+1) (.int .u8 14) (.int .u64 0) (.slice adl labs.length capl) nilS nilS (.int .i64 first.length)
    have kall:Kp (one pb) w _:=(kw6.comp kw (fun _ _ h=>h) (fun k hk h=>by omega)).comp kf (fun _ _ h=>h) (fun k hk h=>by unfold two at h;omega)
    have hlab:=kf.own (kw.own HOL6.out (fun b hb h=>by have :=(HO.out.lt b hb).2;omega)) (fun b hb h=>by have :=own_new HO.out b hb;unfold two at h;omega)
    have htk:=kf.own HO7.out (fun b hb h=>by have :=own_new HO7.out b hb;unfold two at h;omega)
    rw[HM2.out]
    refine⟨⟨.slice adl labs.length capl,.slice ad7 (first.length+1) cap7,.slice adf first.length capf,rfl,⟨fun b hb=>by have :=own_new HO.out b hb;omega,RowAt.own hlab,fun b hb=>by have :=own_new HO.out b hb;omega⟩,heldOwn hpb htk ?_ (by omega),heldOld HSF.out HBF.out (HK0.out.trans kall)⟩,HS7.out.keep kf (fun k hk=>by unfold two;omega),kall⟩
    have :=RowAt.own htk
    simpa[BytesAt]using this
   ·have hTT:=HGO.out
    rw[show n+1 -k=0 by omega,tabGo]at hTT
    clear hgoon
    have hM:=HM.out
    rw[←hTT]at hM
    have HM2:=hide hM
    have hlf:=HLF.out
    clear hM hTT
    go_wp2_with(at_builtin;refine wpList_append_row _ rfl _ _ 25 rfl wr.heap.size 5 i1 (.int .u8 0) 1 1 Tryz.underlying25 hi1 hy0 hy1 hy2 rfl (by decide) _ _ _ rfl (World.ownsRow_nil _ _ _ _) _ first.length (byteVals first) rfl ?c2 (bytes_oneCell _) ?c3 ?c4 (by simp) ?_)
    case c2=>exact HBF.out.one HSF.out (HK0.out.trans (HKP.out.setNew (Nat.le_refl _) _ _))
    case c3=>unfold maxLen;omega
    case c4=>omega
    intro v6 w6 hown6 hgrow6
    have HO6:=hide hown6
    obtain⟨ad6,cap6,rfl⟩:=own_shape hown6
    have kw6:Kp (one pb) w w6:=(HKP.out.setNew (Nat.le_refl _) _ _).grown hgrow6 (fun k hk=>by cases hk)
    have k56:Kp no (wr.setCell ⟨w.heap.size,5,none⟩ (.int .i64 (first.length:Nat))) w6:=(Kp.refl no _).grown hgrow6 (fun k hk=>by cases hk)
    have HB06:=hide (k56.blk (heap_setCell HB0.out _) (fun h=>h))
    have HB16:=hide (k56.blk (heap_setCell_ne (by omega) _ HB1.out) (fun h=>h))
    have HOL6:=hide (k56.own ((Kp.setAt (Kp.refl (fun k=>k=w.heap.size) wr) rfl 5 (.int .i64 (first.length:Nat))).own HO.out (fun b hb e=>by have :=own_new HO.out b hb;omega)) (fun b hb h=>h))
    have HS6:=hide ((HST.out.keep (Kp.setAt (Kp.refl (fun k=>k=w.heap.size) wr) rfl 5 (.int .i64 (first.length:Nat))) (fun k hk=>by omega)).no k56)
    have hsz6:wr.heap.size≤w6.heap.size:=by have :=k56.size;simpa using this
    obtain⟨hc06,hf06⟩:=cells_of HB06.out
    obtain⟨hc16,hf16⟩:=cells_of HB16.out
    clear hown6 hgrow6 hc0 hc1 hf0 hf1
    go_wp2_with(at_builtin;refine wpList_append_row _ rfl _ _ 25 rfl wr.heap.size 5 i1 (.int .u8 0) 1 1 Tryz.underlying25 hi1 hy0 hy1 hy2 rfl (by decide) _ _ _ rfl (HO6.out.alloc _) _ 1 [.int .u8 127] rfl (RowAt.new _ _ _) (one_oneCell rfl) ?c3 ?c4 ?c5 ?_)
    case c3=>unfold maxLen;omega
    case c4=>omega
    case c5=>simp;omega
    intro v7 w7 hown7 hgrow7
    have HO7:=hide hown7
    obtain⟨ad7,cap7,rfl⟩:=own_shape hown7
    have kw:Kp (fun k=>wr.heap.size≤k) w6 w7:=((Kp.refl (fun k=>wr.heap.size≤k) w6).alloc _).grown hgrow7 (fun k hk=> .inl (own_new HO6.out k hk))
    obtain⟨hc07,hf07⟩:=cells_of (kw.blk HB06.out (by omega))
    obtain⟨hc17,hf17⟩:=cells_of (kw.blk HB16.out (by omega))
    have HS7:=hide (HS6.out.keep kw (fun k hk=>by omega))
    clear hown7 hgrow7 hc06 hc16 hf06 hf16
    go_wp2
    refine bodyPost_ret (v:= .tuple #[nodeV 14 0 (.slice adl labs.length capl) nilS nilS first.length,.slice ad7 (first.length+1) cap7,.slice adf first.length capf,.bool same]) (by simp[results,Tryz.results216,go_sem,hc17]) rfl ?_
    have kf:=fin6 w7 w.heap.size (w.heap.size+1) (.int .u8 14) (.int .u64 0) (.slice adl labs.length capl) nilS nilS (.int .i64 first.length)
    have kall:Kp (one pb) w _:=(kw6.comp kw (fun _ _ h=>h) (fun k hk h=>by omega)).comp kf (fun _ _ h=>h) (fun k hk h=>by unfold two at h;omega)
    have hlab:=kf.own (kw.own HOL6.out (fun b hb h=>by have :=(HO.out.lt b hb).2;omega)) (fun b hb h=>by have :=own_new HO.out b hb;unfold two at h;omega)
    have htk:=kf.own HO7.out (fun b hb h=>by have :=own_new HO7.out b hb;unfold two at h;omega)
    rw[HM2.out]
    refine⟨⟨.slice adl labs.length capl,.slice ad7 (first.length+1) cap7,.slice adf first.length capf,rfl,⟨fun b hb=>by have :=own_new HO.out b hb;omega,RowAt.own hlab,fun b hb=>by have :=own_new HO.out b hb;omega⟩,heldOwn hpb htk ?_ (by omega),heldOld HSF.out HBF.out (HK0.out.trans kall)⟩,HS7.out.keep kf (fun k hk=>by unfold two;omega),kall⟩
    have :=RowAt.own htk
    simpa[BytesAt]using this

end Go.Proofs.YtdeplgkhmebalaaGreatDoor.Rf
