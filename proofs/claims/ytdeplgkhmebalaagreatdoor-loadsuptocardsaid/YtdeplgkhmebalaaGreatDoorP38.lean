/- What the row's list of variables gives: the table of instructions lies as the program's text lays it. -/
import Derived.Test.YtdeplgkhmebalaaGreatDoorRows
import Derived.Test.YtdeplgkhmebalaaGreatDoorP19
import Derived.WalkKit
import Derived.ProofKit
import Derived.OpenShut
import Derived.MakeChecks
import Derived.Deep.DeepHandedRow
import Derived.Lay
import Derived.LaidMore
import Derived.Stop.Joined

set_option linter.unusedSimpArgs false
set_option linter.unusedVariables false
set_option maxRecDepth 100000
namespace Go.Proofs.YtdeplgkhmebalaaGreatDoor
open Go.ChangeShapes Go.WideShapes Go.ChangeAt Go.RowKit

def rowData (r:RowT):DataW Unit:= .agg [.lit (.int .u8 r.fr.toNat),.lit (.int .u8 r.upto.toNat),.lit (.int .i64 r.behind),.lit (.string r.takes),.lit (.string r.gives)]
theorem laid_rows:(Rows.laid_stoker_look_rows:DataW Unit)= .slice (rowsM.map rowData) []:=by rfl
theorem gRows:Tryz.prog.globalNamed "stoker/look.rows" =some 1:=by kernel_rfl
theorem gRowsType:(Tryz.prog.globals[1]?).map (·.type)=some 347:=by kernel_rfl
theorem cellsRow:Tryz.prog.cellsOf 329=5:=by kernel_rfl
theorem cellsU8:Tryz.prog.cellsOf 5=1:=by kernel_rfl
theorem cellsI64:Tryz.prog.cellsOf 3=1:=by kernel_rfl
theorem cellsStr:Tryz.prog.cellsOf 9=1:=by kernel_rfl

theorem spot_none {w:World} {b o:Nat} {sp:Option Nat} {v:Value} (h:w.cell? ⟨b,o,sp⟩=some v):sp=none:=by
 cases sp with
 |none=>rfl
 |some x=>
  unfold World.cell? at h
  split at h<;>simp at h

theorem bytes_back {z:ByteArray} {l:List UInt8} (h:z.data.toList=l):z=⟨l.toArray⟩:=by
 cases z with
 |mk d=>subst h;simp
theorem laid_reads {P:Program} {w:World}: ∀{l:List (String×DataW Unit)} {ps:List MemPlace},DataW.LaidVars P w l ps→ ∀n d,(n,d)∈l→
  ∃g t cs fuel p,P.globalNamed n=some g∧(P.globals[g]?).map (·.type)=some t∧w.var? P n=some cs∧DataW.trod (fun _=>()) P w 0 (fun _=>true) false fuel t cs.toList=some (d,p)
 |[],_,_,_,_,hm=>by cases hm
 |(n',d')::r,ps,h,n,d,hm=>by
  obtain⟨g,t,cs,fuel,p,q,h1,h2,h3,h4,h5,_⟩:=h
  rcases List.mem_cons.1 hm with e|e
  ·cases e
   exact⟨g,t,cs,fuel,p,h1,h2,h3,h4⟩
  ·exact laid_reads h5 n d e

theorem row_cells {w:World} {fuel:Nat} {cs:List Value} {r:RowT} {p:List MemPlace} (h:DataW.trod (fun _=>()) Tryz.prog w 0 (fun _=>true) false fuel 329 cs=some (rowData r,p)):cs=rowCells r:=by
 obtain⟨xs,n,-,hx,hl,hxl,hall⟩:=DataW.trod_struct Tryz.underlying329 h
 rw[cellsRow]at hl
 match cs,hl with
 |[c0,c1,c2,c3,c4],_=>
 have hx1:xs.map (·.1)=[.lit (.int .u8 r.fr.toNat),.lit (.int .u8 r.upto.toNat),.lit (.int .i64 r.behind),.lit (.string r.takes),.lit (.string r.gives)]:=by
  have :=congrArg Prod.fst hx
  simpa[rowData]using this.symm
 obtain⟨x0,x1,x2,x3,x4,rfl⟩: ∃x0 x1 x2 x3 x4,xs=[x0,x1,x2,x3,x4]:=by
  match xs,hx1 with
  |[x0,x1,x2,x3,x4],_=>exact⟨x0,x1,x2,x3,x4,rfl⟩
 simp only[List.map_cons,List.map_nil,List.cons.injEq,and_true]at hx1
 obtain⟨e0,e1,e2,e3,e4⟩:=hx1
 have h0:=hall 0 _ rfl
 have h1:=hall 1 _ rfl
 have h2:=hall 2 _ rfl
 have h3:=hall 3 _ rfl
 have h4:=hall 4 _ rfl
 simp[cellsU8,cellsI64,cellsStr]at h0 h1 h2 h3 h4
 obtain⟨z0,f0,g0,-⟩:=DataW.trod_int Tryz.underlying5 h0
 obtain⟨z1,f1,g1,-⟩:=DataW.trod_int Tryz.underlying5 h1
 obtain⟨z2,f2,g2,-⟩:=DataW.trod_int Tryz.underlying3 h2
 obtain⟨z3,f3,g3,-⟩:=DataW.trod_string Tryz.underlying9 h3
 obtain⟨z4,f4,g4,-⟩:=DataW.trod_string Tryz.underlying9 h4
 subst g0 g1 g2 g3 g4
 simp at e0 e1 e2 e3 e4 f0 f1 f2 f3 f4
 subst f0 f1 f2 f3 f4
 have q3:z3=⟨r.takes.toArray⟩:=bytes_back e3
 have q4:z4=⟨r.gives.toArray⟩:=bytes_back e4
 rw[e0,e1,e2,q3,q4]
 rfl

theorem rows_of_laid {W:World} {laid:List (String×DataW Unit)} (hl:(laid.all fun x=>x.2.handleName?.isNone)=true) (hm:("stoker/look.rows",Rows.laid_stoker_look_rows)∈laid) (h:laidMetH Tryz.prog laid W):RowsOk W:=by
 rw[MakeChecks.laidMetH_plain _ _ _ hl]at h
 obtain⟨ps,hv,-⟩:=h
 obtain⟨g,t,cs,fuel,p,hg,ht,hvar,hd⟩:=laid_reads hv _ _ hm
 obtain rfl :=Option.some.inj (gRows.symm.trans hg)
 obtain rfl :=Option.some.inj (gRowsType.symm.trans ht)
 rw[laid_rows]at hd
 rcases DataW.trod_slice Tryz.underlying347 hd with⟨-,hx⟩|⟨a,len,cap,elems,rest,n,-,hcs,hx,-,hlc,-,hlen,hel,-,-⟩
 ·cases hx
 have hx1:elems.map (·.1)=rowsM.map rowData:=by
  have :=congrArg Prod.fst hx
  simp only[DataW.slice.injEq]at this
  exact this.1.symm
 have hl28:elems.length=28:=by
  have :=congrArg List.length hx1
  simpa[rowsM]using this
 obtain rfl :len=28:=by omega
 have hrow: ∀k,k<28→ ∀j,j<5→W.cell? ((a.add (k*5)).add j)=(rowCells (rowsM.getD k noRow))[j]? :=by
  intro k hk j hj
  have h1:=hel k hk
  rw[cellsRow,List.getElem?_eq_getElem (by omega)]at h1
  obtain⟨cs',hc,ht'⟩:=Option.bind_eq_some_iff.1 h1
  obtain⟨-,hcl,hcc⟩:=World.cells?_some hc
  have hek:(elems[k]'(by omega)).1=rowData (rowsM.getD k noRow):=by
   have :=congrArg (·[k]?) hx1
   simp only[List.getElem?_map,List.getElem?_eq_getElem (show k<elems.length by omega),List.getElem?_eq_getElem (show k<rowsM.length by simpa[rowsM]using hk),Option.map_some,Option.some.injEq]at this
   rw[this,List.getD_eq_getElem?_getD,List.getElem?_eq_getElem (show k<rowsM.length by simpa[rowsM]using hk)]
   rfl
  have hrc:=row_cells (r:=rowsM.getD k noRow) (p:=(elems[k]'(by omega)).2) (by rw[ht',←hek])
  rw[hcc j hj,hrc]
 obtain⟨ab,ao,asp⟩:=a
 have hsp:asp=none:=by
  have h0:=hrow 0 (by omega) 0 (by omega)
  rw[show(rowCells (rowsM.getD 0 noRow))[0]? =some (.int .u8 0)from rfl]at h0
  rw[show((⟨ab,ao,asp⟩:Addr).add (0*5)).add 0=⟨ab,ao,asp⟩from rfl]at h0
  exact spot_none h0
 subst hsp
 have hv1:W.cell? ⟨1,0,none⟩=some (.slice (some ⟨ab,ao,none⟩) 28 cap):=by
  rw[World.var?_cell hg hvar 0,←Array.getElem?_toList,hcs]
  rfl
 have hlt: ∀{b o v},W.cell? ⟨b,o,none⟩=some v→b<W.heap.size:=fun{b o v} hc=>by
  rcases Nat.lt_or_ge b W.heap.size with h1|h1
  ·exact h1
  ·rw[World.cell?,Array.getElem?_eq_none h1]at hc;cases hc
 refine⟨ab,ao,cap,hv1,hlc,hlt hv1,?_,fun k hk j hj=> ?_⟩
 ·have h0:=hrow 0 (by omega) 0 (by omega)
  rw[show(rowCells (rowsM.getD 0 noRow))[0]? =some (.int .u8 0)from rfl]at h0
  exact hlt (o:=ao) h0
 ·have h0:=hrow k hk j hj
  rw[Addr.add_lit,Addr.add_lit]at h0
  exact h0

theorem wf_i64 {a:Int} (h:(Lit.int .i64 a).wf=true): -9223372036854775808≤a∧a<9223372036854775808:=by
 have h':(decide (IntKind.i64.min≤a)&&decide (a≤IntKind.i64.max))=true:=h
 rw[show IntKind.i64.min= -9223372036854775808 from rfl,show IntKind.i64.max=9223372036854775807 from rfl]at h'
 simp only[Bool.and_eq_true,decide_eq_true_eq]at h'
 omega
theorem wf_u64 {a:Int} (h:(Lit.int .u64 a).wf=true):0≤a∧a<18446744073709551616:=by
 have h':(decide (IntKind.u64.min≤a)&&decide (a≤IntKind.u64.max))=true:=h
 rw[show IntKind.u64.min=0 from rfl,show IntKind.u64.max=18446744073709551615 from rfl]at h'
 simp only[Bool.and_eq_true,decide_eq_true_eq]at h'
 omega
theorem kept_of {w w':World} (k:Kp no w w') (P:MemPlace→Prop):w.keptBut w' P:=by
 refine⟨k.os,k.output,fun i hi=> ?_⟩
 rw[k.block i hi (fun h=>h)]
 cases hw:w.heap[i]? with
 |none=>rfl
 |some o=>
  cases o with
  |cells c t fr=>exact⟨rfl,rfl,rfl,fun _ _=>rfl⟩
  |map es clock=>exact .inr ⟨rfl,rfl⟩
  |_=>rfl

end Go.Proofs.YtdeplgkhmebalaaGreatDoor
