/- A script that was handed in, as it is told. -/
import Derived.Test.YtdeplgkhmebalaaGreatDoorP03
import Derived.Test.YtdeplgkhmebalaaGreatDoorP38
import Derived.ChangeSlices
import Derived.Deep.Slices

set_option linter.unusedSimpArgs false
set_option linter.unusedVariables false
set_option maxHeartbeats 1000000
set_option maxRecDepth 100000
namespace Go.Proofs.YtdeplgkhmebalaaGreatDoor
open Go.ChangeShapes Go.WideShapes Go.ChangeAt Go.RowKit Go.Deep

theorem bulk_mem {H:Type} {d:DataW H} {l:List (DataW H)} (h:d∈l):Rows.uptoBulk d≤Rows.uptoBulkAll l:=by
 induction l with
 |nil=>cases h
 |cons x l ih=>
  rw[Rows.uptoBulkAll]
  rcases List.mem_cons.1 h with rfl |h
  ·omega
  ·have :=ih h;omega
theorem bulk_one {H:Type} (d:DataW H):1≤Rows.uptoBulk d:=by
 unfold Rows.uptoBulk
 split <;>omega
theorem bulk_len {H:Type} (l:List (DataW H)):l.length≤Rows.uptoBulkAll l:=by
 induction l with
 |nil=>exact Nat.zero_le _
 |cons x l ih=>rw[Rows.uptoBulkAll,List.length_cons];have :=bulk_one x;omega
theorem cellsOp:Tryz.prog.cellsOf 93=6:=by kernel_rfl
theorem cellsBs:Tryz.prog.cellsOf 25=1:=by kernel_rfl
theorem cellsUs:Tryz.prog.cellsOf 53=1:=by kernel_rfl
theorem slice_hasOp {W:World} {r:Reach} {b0:Nat} {a:Addr} {len cap:Nat} (hv:Value.okWide Tryz.prog W r b0 22 (.slice (some a) len cap)):a.spot=none:=by
 simp only[Value.okWide,Tryz.underlying22,Cell.okWide,Cell.ok]at hv
 obtain⟨-,-,-,h1,-⟩:=hv
 exact h1
theorem wf_u8' {a:Int} (h:(Lit.int .u8 a).wf=true):0≤a∧a<256:=by
 have h':(decide (IntKind.u8.min≤a)&&decide (a≤IntKind.u8.max))=true:=h
 rw[show IntKind.u8.min=0 from rfl,show IntKind.u8.max=255 from rfl]at h'
 simp only[Bool.and_eq_true,decide_eq_true_eq]at h'
 omega
theorem cell_lt {W:World} {a:Addr} {v:Value} (h:W.cell? a=some v):a.block<W.heap.size:=by
 rcases Nat.lt_or_ge a.block W.heap.size with h1|h1
 ·exact h1
 ·obtain⟨b,o,s⟩:=a
  obtain rfl :s=none:=spot_none h
  rw[World.cell?,Array.getElem?_eq_none h1]at h
  cases h
theorem inner_bytes {H:Type} {enc:TypeId×Value→H} {W:World} {fuel:Nat} {c:Value} {x:DataW H×List MemPlace} (h:DataW.trod enc Tryz.prog W 0 (fun _=>true) true fuel 25 [c]=some x) (hk:Rows.uptoBulk x.1≤1048576):
  ∃data:List UInt8,Rf.BytesOk W c data∧(∀b,Rf.bvB c data=some b→b<W.heap.size)∧data.length≤2000000:=by
 rcases open_ints Tryz.underlying25 Tryz.underlying5 cellsU8 h with⟨hcs,-⟩|⟨a,len,cap,zs,hcs,-,hl,hm,hz,hx,hcell,hwz⟩
 ·simp only[List.cons.injEq,and_true]at hcs
  subst hcs
  exact⟨[],.of (BytesAt.nil W),(fun b hb=>by cases hb),by simp⟩
 ·simp only[List.cons.injEq,and_true]at hcs
  subst hcs
  simp only[if_true]at hz
  have hll:((zs.take len).map fun z=>UInt8.ofNat z.toNat).length=len:=by rw[List.length_map,List.length_take,hz];omega
  have hlen:len≤2000000:=by
   rw[hx]at hk
   simp only[Rows.uptoBulk]at hk
   have :=bulk_len (lits (H:=H) .u8 (zs.take len))
   have h2:(lits (H:=H) .u8 (zs.take len)).length=len:=by simp[lits,hz];omega
   omega
  refine⟨(zs.take len).map fun z=>UInt8.ofNat z.toNat,⟨⟨some a,cap,by rw[hll],by rw[hll];exact hl⟩,fun hne=> ?_⟩,fun b hb=> ?_,by rw[hll];exact hlen⟩
  ·have hpos:0<len:=by
    rcases Nat.eq_zero_or_pos len with h0|h0
    ·exact absurd (List.eq_nil_of_length_eq_zero (by rw[hll];exact h0)) hne
    ·exact h0
   have hc0:=hcell 0 (by omega)
   obtain⟨ab,ao,asp⟩:=a
   rw[Addr.add_zero']at hc0
   obtain rfl :asp=none:=spot_none hc0
   have :=BytesAt.mk (w:=W) (a:=ab) (o:=ao) (cap:=cap) (l:=(zs.take len).map fun z=>UInt8.ofNat z.toNat) (by rw[hll];exact hl) (fun k hk=>by
    rw[hll]at hk
    have hk':k<zs.length:=by omega
    have hc:=hcell k hk'
    rw[Addr.add_lit]at hc
    rw[hc]
    have hw:=wf_u8' (hwz (zs.getD k 0) (by rw[List.getD_eq_getElem?_getD,List.getElem?_eq_getElem hk'];exact List.getElem_mem hk'))
    have e:((zs.take len).map fun z=>UInt8.ofNat z.toNat).getD k 0=UInt8.ofNat (zs.getD k 0).toNat:=by
     simp[List.getD_eq_getElem?_getD,hk,List.getElem?_eq_getElem hk']
    rw[e]
    have e2:((UInt8.ofNat (zs.getD k 0).toNat).toNat:Int)=zs.getD k 0:=by rw[UInt8.toNat_ofNat'];omega
    rw[e2])
   rw[hll]at this
   exact this
  ·unfold Rf.bvB at hb
   split at hb
   ·cases hb
   ·rename_i hne
    have hpos:0<len:=by
     rcases Nat.eq_zero_or_pos len with h0|h0
     ·exact absurd (List.eq_nil_of_length_eq_zero (by rw[hll];exact h0)) hne
     ·exact h0
    have hc0:=cell_lt (hcell 0 (by omega))
    have hb':a.block=b:=Option.some.inj hb
    rw[Addr.add_zero']at hc0
    omega
theorem six {α:Type} {cs:List α} (h:cs.length=6): ∃c0 c1 c2 c3 c4 c5,cs=[c0,c1,c2,c3,c4,c5]:=by
 match cs,h with
 |[c0,c1,c2,c3,c4,c5],_=>exact⟨c0,c1,c2,c3,c4,c5,rfl⟩
theorem script_of {H:Type} {enc:TypeId×Value→H} {W:World} {r:Reach} {b0:Nat} {v:Value} {d:DataW H} {ps:List MemPlace} (hv:Value.okWide Tryz.prog W r b0 22 v)
  (h:DataW.Trod enc Tryz.prog W 0 (fun _=>true) true 22 v d ps) (hk:Rows.uptoBulk d≤1048576):
  ∃N,ScriptAt W v N∧N≤1048576∧ ∀x∈ps,x.block<W.heap.size:=by
 obtain⟨fuel,hf⟩:=h
 obtain⟨a0,len0,cap0,rfl⟩:=okWide_slice Tryz.underlying22 hv
 have hlt:=DataW.trod_lt fuel _ _ _ hf
 rcases open_slice Tryz.underlying22 hf with⟨hcs,hx⟩|⟨a,len,cap,m,n,D,Pl,hcs,-,hl,hm,hmm,hx,hall⟩
 ·have hcs:[Value.slice a0 len0 cap0]=[Value.slice none 0 0]:=hcs
  simp only[List.cons.injEq,and_true]at hcs
  rw[hcs]
  exact⟨0,⟨[],RowAt.nil _ 6,fun k h=>absurd h (Nat.not_lt_zero _)⟩,by omega,hlt⟩
 ·have hcs:[Value.slice a0 len0 cap0]=[Value.slice (some a) len cap]:=hcs
  simp only[List.cons.injEq,and_true]at hcs
  rw[hcs]at hv⊢
  have hsp:=slice_hasOp hv
  obtain⟨ab,ao,asp⟩:=a
  simp only at hsp
  subst hsp
  simp only[if_true]at hmm
  have hd:d= .slice ((List.range len).map D) ((List.range (m -len)).map fun j=>D (len+j)):=congrArg Prod.fst hx
  rw[hd]at hk
  simp only[Rows.uptoBulk]at hk
  have hlen:len≤1048576:=by
   have :=bulk_len ((List.range len).map D)
   rw[List.length_map,List.length_range]at this
   omega
  have hel: ∀i,i<len→ ∃c0 c1 c2 c3 c4 c5,(∀j,j<6→W.cell? ⟨ab,ao+i*6+j,none⟩=[c0,c1,c2,c3,c4,c5][j]?)∧ ∃(kd a b c:Int) (data:List UInt8) (al:Option Addr) (nl cl:Nat),c0= .int .i64 kd∧c1= .int .i64 a∧c2= .int .i64 b∧c3= .int .i64 c∧c5= .slice al nl cl∧Rf.BytesOk W c4 data∧(∀b,Rf.bvB c4 data=some b→b<W.heap.size)∧data.length≤2000000∧ -9223372036854775808≤a∧a≤9223372036854775807:=by
   intro i hi
   obtain⟨cs',h1,h2⟩:=hall i (by omega)
   rw[cellsOp,Addr.add_lit]at h1
   obtain⟨-,hl6,hc6⟩:=World.cells?_some h1
   obtain⟨c0,c1,c2,c3,c4,c5,rfl⟩:=six hl6
   obtain⟨xs,n',-,hDx,-,hxl,hfs⟩:=DataW.trod_struct Tryz.underlying93 h2
   obtain⟨y0,y1,y2,y3,y4,y5,rfl⟩:=six (show xs.length=6 from hxl)
   have t0:DataW.trod enc Tryz.prog W 0 (fun _=>true) true n' 3 (List.take (Tryz.prog.cellsOf 3) (List.drop 0 [c0,c1,c2,c3,c4,c5]))=some y0:=hfs 0 _ rfl
   rw[cellsI64]at t0
   change DataW.trod enc Tryz.prog W 0 (fun _=>true) true n' 3 [c0]=some y0 at t0
   have t1:DataW.trod enc Tryz.prog W 0 (fun _=>true) true n' 3 (List.take (Tryz.prog.cellsOf 3) (List.drop 1 [c0,c1,c2,c3,c4,c5]))=some y1:=hfs 1 _ rfl
   rw[cellsI64]at t1
   change DataW.trod enc Tryz.prog W 0 (fun _=>true) true n' 3 [c1]=some y1 at t1
   have t2:DataW.trod enc Tryz.prog W 0 (fun _=>true) true n' 3 (List.take (Tryz.prog.cellsOf 3) (List.drop 2 [c0,c1,c2,c3,c4,c5]))=some y2:=hfs 2 _ rfl
   rw[cellsI64]at t2
   change DataW.trod enc Tryz.prog W 0 (fun _=>true) true n' 3 [c2]=some y2 at t2
   have t3:DataW.trod enc Tryz.prog W 0 (fun _=>true) true n' 3 (List.take (Tryz.prog.cellsOf 3) (List.drop 3 [c0,c1,c2,c3,c4,c5]))=some y3:=hfs 3 _ rfl
   rw[cellsI64]at t3
   change DataW.trod enc Tryz.prog W 0 (fun _=>true) true n' 3 [c3]=some y3 at t3
   have t4:DataW.trod enc Tryz.prog W 0 (fun _=>true) true n' 25 (List.take (Tryz.prog.cellsOf 25) (List.drop 4 [c0,c1,c2,c3,c4,c5]))=some y4:=hfs 4 _ rfl
   rw[cellsBs]at t4
   change DataW.trod enc Tryz.prog W 0 (fun _=>true) true n' 25 [c4]=some y4 at t4
   have t5:DataW.trod enc Tryz.prog W 0 (fun _=>true) true n' 53 (List.take (Tryz.prog.cellsOf 53) (List.drop 5 [c0,c1,c2,c3,c4,c5]))=some y5:=hfs 5 _ rfl
   rw[cellsUs]at t5
   change DataW.trod enc Tryz.prog W 0 (fun _=>true) true n' 53 [c5]=some y5 at t5
   obtain⟨kd,e0,-,-⟩:=DataW.trod_int Tryz.underlying3 t0
   obtain⟨a,e1,-,w1⟩:=DataW.trod_int Tryz.underlying3 t1
   obtain⟨b,e2,-,-⟩:=DataW.trod_int Tryz.underlying3 t2
   obtain⟨c,e3,-,-⟩:=DataW.trod_int Tryz.underlying3 t3
   have hDi:D i= .agg [y0.1,y1.1,y2.1,y3.1,y4.1,y5.1]:=congrArg Prod.fst hDx
   have hbD:Rows.uptoBulk (D i)≤1048576:=by
    have :=bulk_mem (show D i∈(List.range len).map D from List.mem_map.2 ⟨i,List.mem_range.2 hi,rfl⟩)
    omega
   have hb4:Rows.uptoBulk y4.1≤1048576:=by
    rw[hDi]at hbD
    simp only[Rows.uptoBulk]at hbD
    have :=bulk_mem (show y4.1∈[y0.1,y1.1,y2.1,y3.1,y4.1,y5.1]by simp)
    omega
   obtain⟨data,q1,q2,q3⟩:=inner_bytes t4 hb4
   obtain⟨al,nl,cl,e5⟩: ∃al nl cl,c5= .slice al nl cl:=by
    rcases DataW.trod_slice Tryz.underlying53 t5 with⟨hc,-⟩|⟨a,len,cap,elems,rest,n,-,hc,-⟩
    ·simp only[List.cons.injEq,and_true]at hc;exact⟨_,_,_,hc⟩
    ·simp only[List.cons.injEq,and_true]at hc;exact⟨_,_,_,hc⟩
   simp only[List.cons.injEq,and_true]at e0 e1 e2 e3
   have hw:=wf_i64 w1
   exact⟨c0,c1,c2,c3,c4,c5,fun j hj=>by have :=hc6 j hj;rw[Addr.add_lit]at this;exact this,kd,a,b,c,data,al,nl,cl,e0,e1,e2,e3,e5,q1,q2,q3,hw.1,by omega⟩
  have hsome: ∀q,q<len*6→ ∃x,W.cell? ⟨ab,ao+q,none⟩=some x:=by
   intro q hq
   obtain⟨c0,c1,c2,c3,c4,c5,hc,-⟩:=hel (q/6) (by omega)
   have :=hc (q%6) (by omega)
   rw[show ao+q/6*6+q%6=ao+q by omega]at this
   rw[this]
   exact⟨_,List.getElem?_eq_getElem (by simp;omega)⟩
  have hcl: ∀q x,W.cell? ⟨ab,ao+q,none⟩=some x→q<len*6→((List.range (len*6)).map fun q=>(W.cell? ⟨ab,ao+q,none⟩).getD (.int .i64 0))[q]? =some x:=by
   intro q x hq hlt
   rw[List.getElem?_map,List.getElem?_range hlt]
   simp[hq]
  refine⟨len,⟨(List.range (len*6)).map fun q=>(W.cell? ⟨ab,ao+q,none⟩).getD (.int .i64 0),⟨by simp,.inr ⟨ab,ao,cap,rfl,hl,fun k x hk=> ?_⟩⟩,fun k hk=> ?_⟩,hlen,hlt⟩
  ·have hkl:k<len*6:=by
    have :=(List.getElem?_eq_some_iff.1 hk).1
    simpa using this
   obtain⟨y,hy⟩:=hsome k hkl
   have :=hcl k y hy hkl
   rw[hk]at this
   rw[hy]
   exact this.symm
  ·obtain⟨c0,c1,c2,c3,c4,c5,hc,kd,a,b,c,data,al,nl,cl,rfl,rfl,rfl,rfl,rfl,q1,q2,q3,q4,q5⟩:=hel k hk
   have g: ∀j x,j<6→[Value.int .i64 kd,.int .i64 a,.int .i64 b,.int .i64 c,c4,.slice al nl cl][j]? =some x→((List.range (len*6)).map fun q=>(W.cell? ⟨ab,ao+q,none⟩).getD (.int .i64 0))[k*6+j]? =some x:=fun j x hj hx=>hcl _ _ (by rw[←Nat.add_assoc,hc j hj];exact hx) (by omega)
   exact⟨kd,a,b,c,c4,data,al,nl,cl,g 0 _ (by omega) rfl,g 1 _ (by omega) rfl,g 2 _ (by omega) rfl,g 3 _ (by omega) rfl,g 4 _ (by omega) rfl,g 5 _ (by omega) rfl,q1,q2,q3,q4,q5⟩
end Go.Proofs.YtdeplgkhmebalaaGreatDoor
