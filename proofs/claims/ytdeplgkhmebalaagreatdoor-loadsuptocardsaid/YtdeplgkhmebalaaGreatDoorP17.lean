/- The program's reader of bytes: one byte of several, a part; two rows of bytes held against one another. -/
import Derived.Test.YtdeplgkhmebalaaGreatDoorP03
import Derived.Test.YtdeplgkhmebalaaGreatDoorP12
import Derived.Lib.Bytealg
import Derived.Lib.Walk
import Derived.Lib.Slices
import Derived.Laws.BytesArg
import Derived.Shelf.Bytes.SlSmallAll
import Derived.Test.YtdeplgkhmebalaaGreatDoorP14
import Derived.Test.YtdeplgkhmebalaaGreatDoorP04

set_option linter.unusedSimpArgs false
set_option linter.unusedVariables false
set_option maxHeartbeats 1000000
set_option maxRecDepth 100000
namespace Go.Proofs.YtdeplgkhmebalaaGreatDoor
open Go.RowKit

theorem slite_any (s:ByteArray) (c:Int) (w:World):Calls Tryz.prog 176 #[.string s,.int .u8 c] w fun e w'=>e= .returned (.int .i64 (Lib.indexByte s.data.toList c.toNat.toUInt8))∧w'=w:=by
 go_enter Tryz.func176,Tryz.ntmps176
 go_wp2
 rw[run_callFunc_extern Tryz.func206 (by kernel_rfl) (by kernel_rfl) (by kernel_rfl) (e:=Extern.BytealgIndexByte.indexByte) (by kernel_rfl),Lib.run_indexByteString]
 simp only[Result.andThen]
 rw[Oper.upon_value]
 go_wp2
 go_ret
 exact⟨rfl,rfl⟩

theorem index_any (s:ByteArray) (c:Int) (w:World):Calls Tryz.prog 139 #[.string s,.int .u8 c] w fun e w'=>e= .returned (.int .i64 (Lib.indexByte s.data.toList c.toNat.toUInt8))∧w'=w:=by
 have h:=slite_any s c w
 generalize Lib.indexByte s.data.toList c.toNat.toUInt8=n at *
 have H:=hide h
 clear h
 go_enter Tryz.func139,Tryz.ntmps139
 go_wp2_with fail
 refine H.out.mono ?_
 rintro e w' ⟨rfl,rfl⟩
 go_wp2
 go_ret
 exact⟨rfl,rfl⟩

theorem indexByte_mem (l:List UInt8) (c:UInt8):(if c∈l then (0≤Lib.indexByte l c)else Lib.indexByte l c= -1):=by
 induction l with
 |nil=>rfl
 |cons b l ih=>
  unfold Lib.indexByte
  by_cases hb:b=c
  ·subst hb;simp
  ·have h1:(b==c)=false:=by simpa using hb
   by_cases hm:c∈l
   ·rw[if_pos hm]at ih
    rw[if_pos (List.mem_cons_of_mem _ hm),if_neg (by simp[h1]),if_neg (by simp;omega)]
    omega
   ·rw[if_neg hm]at ih
    rw[if_neg (by simp[hm];exact fun e=>hb e.symm),if_neg (by simp[h1]),if_pos (by simp[ih])]

def oneOfM (D:List UInt8) (allowed:List UInt8) (i:Nat):Except (Int×Int) (UInt8×Nat):=
 match byteM D i with
 | .error e=> .error e
 | .ok (c,j)=>if c∈allowed then .ok (c,j)else .error (2,i)

theorem oneOf_any {w:World} {rb:Nat} {dv:Value} {D:List UInt8} {i:Nat} (h:RSt w rb dv D i) (s:ByteArray) (al:List UInt8) (hal:s.data.toList=al):
  Calls Tryz.prog 104 #[ptrTo rb,.string s] w fun r w'=>Gives w w' rb dv D (fun c v=>v= .int .u8 (UInt8.toNat c)) (.int .u8 0) (oneOfM D al i) r∧Kp (one rb) w w':=by
 have hM:oneOfM D al i=(match byteM D i with | .error e=> .error e| .ok (c,j)=>if c∈al then .ok (c,j)else .error (2,i)):=rfl
 generalize oneOfM D al i=R at *
 have hg:=byte_any h
 obtain⟨hc,-⟩:=cells_of h.blk
 generalize byteM D i=Q at *
 have Hg:=hide hg
 have HA:=hide hal
 clear hg h hal
 match Q,hM,Hg with
 | .error e,hM,Hg=>
  have HM:=hide hM
  clear hM
  go_enter Tryz.func104,Tryz.ntmps104
  go_wp2_with fail
  refine Hg.out.mono ?_
  rintro r w1 ⟨⟨fv,j,rfl,⟨fb,rfl,hfb,hfo⟩,h1⟩,k1⟩
  have H1:=hide h1
  have HF:=hide hfo
  clear h1 hfo
  go_wp2
  go_ret2
  rw[HM.out]
  exact⟨⟨ptrTo fb,j,rfl,⟨fb,rfl,hfb,HF.out⟩,H1.out⟩,k1⟩
 | .ok (c,j),hM,Hg=>
  have hix:=index_any s (c.toNat:Int)
  have hmem:=indexByte_mem al c
  rw[HA.out,show((c.toNat:Int).toNat.toUInt8)=c by simp]at hix
  generalize Lib.indexByte al c=n at *
  have HX:=hide hix
  clear hix
  by_cases hcm:c∈al
  ·simp only[if_pos hcm]at hM hmem
   have HM:=hide hM
   clear hM hcm
   go_enter Tryz.func104,Tryz.ntmps104
   go_wp2_with fail
   refine Hg.out.mono ?_
   rintro r w1 ⟨⟨v,rfl,rfl,h1⟩,k1⟩
   have H1:=hide h1
   clear h1
   go_wp2_with fail
   refine(HX.out _).mono ?_
   rintro r w2 ⟨rfl,rfl⟩
   go_wp2
   go_ret2
   rw[HM.out]
   exact⟨⟨_,rfl,rfl,H1.out⟩,k1⟩
  ·simp only[if_neg hcm]at hM hmem
   have HM1:=hide hM
   clear hM hcm
   go_enter Tryz.func104,Tryz.ntmps104
   go_wp2_with fail
   refine Hg.out.mono ?_
   rintro r w1 ⟨⟨v,rfl,rfl,h1⟩,k1⟩
   have H1:=hide h1
   clear h1
   go_wp2_with fail
   refine(HX.out _).mono ?_
   rintro r w2 ⟨rfl,rfl⟩
   subst hmem
   go_wp2_with fail
   refine(form_any _ _).mono ?_
   rintro r w9 ⟨rfl,rfl⟩
   go_wp2
   go_ret2
   rw[HM1.out]
   exact⟨⟨ptrTo w2.heap.size,j,rfl,⟨w2.heap.size,rfl,k1.size,heap_alloc_new _ _⟩,H1.out.kp ((Kp.refl no w2).alloc _) (fun h=>h) (fun _ _ _ h=>h)⟩,k1.alloc _⟩

theorem BytesAt.take {w:World} {a o cap:Nat} {l:List UInt8} (h:BytesAt w (.slice (some ⟨a,o,none⟩) l.length cap) l) (n:Nat) (hn:n≤l.length):BytesAt w (.slice (some ⟨a,o,none⟩) n cap) (l.take n):=by
 rcases h.cases with⟨hv,-⟩|⟨a',o',cap',hv,hc,hcell⟩
 ·cases hv
 ·cases hv
  have hl:(l.take n).length=n:=by simp;omega
  have :=BytesAt.mk (w:=w) (a:=a) (o:=o) (cap:=cap) (l:=l.take n) (by omega) (fun k hk=>by
   rw[hcell k (by omega)]
   simp only[List.getD,List.getElem?_take,if_pos (show k<n by omega)])
  rwa[hl]at this

theorem size_setCell (w:World) (p:Addr) (v:Value):(w.setCell p v).heap.size=w.heap.size:=by simp[World.setCell]

theorem wrap_small (n:Nat) (h:n<9223372036854775808):IntKind.i64.wrap (n:Int)=(n:Int):=by
 simp only[IntKind.wrap,IntKind.signed,IntKind.bits]
 simp
 split <;>omega

theorem part_any {w:World} {rb:Nat} {dv:Value} {D:List UInt8} {i:Nat} (h:RSt w rb dv D i) (n:Nat) (hn:i+n≤D.length) (hpos:0<D.length):
  Calls Tryz.prog 113 #[ptrTo rb,.int .i64 n] w fun r w'=>(∃pb dv',r= .returned (ptrTo pb)∧w.heap.size≤pb∧RSt w' pb dv' (D.take (i+n)) i∧(∀b,dv'.ownBlock=some b→dv.ownBlock=some b)∧RSt w' rb dv D (i+n))∧Kp (one rb) w w':=by
 obtain⟨hc,hf⟩:=cells_of h.blk
 have hl:=h.len
 have hlt:=lt_of_blk h.blk
 have HB:=hide h
 rcases h.bytes.cases with⟨rfl,hD⟩|⟨a,o,cap,rfl,hcap,-⟩
 ·subst hD;simp at hpos
 ·have hi0:(0:Int)≤(i:Int)+n:=by omega
  have hi1:(i:Int)+n≤cap:=by omega
  have hw:IntKind.i64.wrap ((i:Int)+n)=(i:Int)+n:=by rw[show(i:Int)+n=((i+n:Nat):Int)by simp];exact wrap_small _ (by omega)
  clear h
  go_enter Tryz.func113,Tryz.ntmps113
  go_wp2_with fail
  go_region_held3 (fun w'=>w'.cell? ⟨rb,0,none⟩=some (.slice (some ⟨a,o,none⟩) D.length cap)∧w'.cell? ⟨rb,1,none⟩=some (.int .i64 i)) (go_keep) (fail)
  go_wp2
  go_ret
  have ha:a<w.heap.size:=by
   rcases HB.out.bytes.cases with⟨hv,-⟩|⟨a',o',cap',hv,-,hcell⟩
   ·cases hv
   ·cases hv
    have hx:=hcell 0 hpos
    rcases Nat.lt_or_ge a w.heap.size with h1|h1
    ·exact h1
    ·rw[World.cell?,Array.getElem?_eq_none h1]at hx;cases hx
  have hlen:(D.take (i+n)).length=i+n:=by simp;omega
  have k2:Kp (one rb) w ((w.setCell ⟨rb,1,none⟩ (.int .i64 ((i:Int)+n))).alloc (rdObj (.slice (some ⟨a,o,none⟩) (i+n) cap) i)).drew:=(((Kp.refl (one rb) w).set1 1 (.int .i64 ((i:Int)+n))).alloc _).drew
  refine⟨⟨w.heap.size,.slice (some ⟨a,o,none⟩) (i+n) cap,rfl,Nat.le_refl _,⟨?_,?_,?_,by omega,by omega⟩,fun b hb=>hb,HB.out.step k2 ?_ hn⟩,k2⟩
  ·have :=heap_alloc_new (w.setCell ⟨rb,1,none⟩ (.int .i64 ((i:Int)+n))) (rdObj (.slice (some ⟨a,o,none⟩) (i+n) cap) i)
   rw[size_setCell]at this
   exact this
  ·exact(HB.out.bytes.kp k2 (fun b hb e=>HB.out.sep b hb e)).take (i+n) hn
  ·intro b hb;cases hb;exact Nat.ne_of_lt ha
  ·exact heap_alloc_old (heap_setCell HB.out.blk _)

theorem equal_any {w:World} {v1 v2:Value} {l1 l2:List UInt8} (h1:BytesAt w v1 l1) (h2:BytesAt w v2 l2):
  Calls Tryz.prog 287 #[v1,v2] w fun r w'=>r= .returned (.bool (l1==l2))∧w'=w:=by
 have key: ∀{v:Value} {l:List UInt8},BytesAt w v l→(convert 25 9 v).run Tryz.prog w= .ok (.string ⟨l.toArray⟩) w:=by
  intro v l h
  have e: ∀l:List UInt8,strOfNums (l.map fun c=>(c.toNat:Int))=⟨l.toArray⟩:=by
   intro l
   simp[strOfNums]
   exact List.map_id'' (fun c=>by simp) l
  rcases h.cases with⟨rfl,rfl⟩|⟨a,o,cap,rfl,hc,hcell⟩
  ·exact run_convert_bytes_zero w 25 5 Tryz.underlying25 Tryz.underlying5 none 0 9 Tryz.underlying9
  ·rw[run_convert_bytes_arg w 25 5 Tryz.underlying25 Tryz.underlying5 a o l.length cap (l.map fun c=>(c.toNat:Int)) (by simp) (fun i hi=>by rw[hcell i hi];simp[List.getD,List.getElem?_eq_getElem hi]) 9 Tryz.underlying9,e]
 have k1:=key h1
 have k2:=key h2
 have q:((⟨l1.toArray⟩:ByteArray)==⟨l2.toArray⟩)=(l1==l2):=by
  show(l1.toArray==l2.toArray)=_
  simp
 clear key h1 h2
 go_enter Tryz.func287,Tryz.ntmps287
 go_wp2
 go_ret
 exact⟨rfl,rfl⟩

end Go.Proofs.YtdeplgkhmebalaaGreatDoor

set_option linter.unusedSimpArgs false
set_option linter.unusedVariables false
namespace Go.Proofs.YtdeplgkhmebalaaGreatDoor
open Go.RowKit

def noBk:Bk:=⟨0,[],0,0,[]⟩
def Bd.bk (s:Bd) (k:Nat):Bk:=s.blocks.getD k noBk
def Bd.top (s:Bd):Bk:=s.bk (s.blocks.length -1)

def takeAnyM (s:Bd):Option (UInt8×Bd):=
 if s.stack.length≤s.top.height then none else some (s.stack.getD (s.stack.length -1) 0,{s with stack:=s.stack.take (s.stack.length -1)})
def takeM (s:Bd) (t:UInt8):Option Bd:=
 match takeAnyM s with
 |none=>none
 |some (u,s')=>if u=t then some s' else none
def takeN (ts:List UInt8):Nat→Bd→Option Bd
 |0,s=>some s
 |k+1,s=>match takeM s (ts.getD k 0)with
  |none=>none
  |some s'=>takeN ts k s'
def takeAllM (s:Bd) (ts:List UInt8):Option Bd:=takeN ts ts.length s
def putM (s:Bd) (ts:List UInt8):Bd:={s with stack:=s.stack++ts}
def emitM (s:Bd) (x:Ins):Bd:={s with code:=s.code++[x]}
def valueM (b:Bk):List UInt8:=if b.kind=2 then []else b.result
def carriesM (s:Bd) (k:Nat):Option Bd:=(takeAllM s (valueM (s.bk k))).map fun s'=>putM s' (valueM (s.bk k))
def jumpM (s:Bd) (op:UInt8) (k:Nat):Bd:=
 if (s.bk k).kind=2 then emitM s ⟨op,0,(s.bk k).start,(s.bk k).height,(valueM (s.bk k)).length⟩
 else emitM {s with blocks:=s.blocks.set k {s.bk k with waits:=(s.bk k).waits++[s.code.length]}} ⟨op,0,0,(s.bk k).height,(valueM (s.bk k)).length⟩
def aimM (s:Bd) (n:Nat):Bd:={s with code:=s.code.set n {s.code.getD n ⟨0,0,0,0,0⟩with goal:=s.code.length}}
def fullM (s:Bd) (k:Nat):Bool:=s.closed||s.stack.drop (s.bk k).height==(s.bk k).result

abbrev Res:=Except (Int×Int) Bd
def wrongM (s:Bd):Res:= .error (3,s.pos)
def labelM (c:Ctx) (s:Bd):Except (Int×Int) (Nat×Bd):=
 match belowM c.D s.blocks.length s.i with
 | .error e=> .error e
 | .ok (n,j)=> .ok (s.blocks.length -1 -n,{s with i:=j})
def stopM (s:Bd):Res:= .ok {emitM s ⟨0,0,0,0,0⟩with closed:=true}
def openM (c:Ctx) (op:UInt8) (s:Bd):Res:=
 match oneOfM c.D [127,126,64] s.i with
 | .error e=> .error e
 | .ok (t,j)=>
  match (if op=4 then takeM {s with i:=j} 127 else some {s with i:=j})with
  |none=>wrongM s
  |some s1=>
   if s1.blocks.length -1=16 then wrongM s
   else .ok {emitM s1 ⟨op,0,0,if op=4 then s1.stack.length else 0,0⟩with blocks:=s1.blocks++[⟨if op=3 then 2 else if op=4 then 3 else 1,if t=64 then []else [t],s1.stack.length,s1.code.length+1,[]⟩]}
def turnM (s:Bd):Res:=
 if s.top.kind≠3∨fullM s (s.blocks.length -1)=false then wrongM s
 else
  let s1:=aimM (jumpM s 5 (s.blocks.length -1)) (s.top.start -1)
  .ok {s1 with blocks:=s1.blocks.set (s1.blocks.length -1) {s1.top with kind:=4},stack:=s1.stack.take s1.top.height,closed:=false}
def aimAll (l:List Nat) (s:Bd):Bd:=l.foldl aimM s
def endM (s:Bd):Res:=
 if fullM s (s.blocks.length -1)=false∨(s.top.kind=3∧s.top.result≠[])then wrongM s
 else
  let s1:=if s.top.kind=3 then aimM s (s.top.start -1)else s
  let s2:=aimAll s.top.waits s1
  let s3:=if s.top.kind=0 then emitM s2 ⟨11,0,0,0,0⟩else s2
  .ok {s3 with stack:=s3.stack.take s.top.height++s.top.result,blocks:=s3.blocks.take (s3.blocks.length -1),closed:=false}
def branchM (c:Ctx) (op:UInt8) (s:Bd):Res:=
 match labelM c s with
 | .error e=> .error e
 | .ok (k,s1)=>
  match (if op=13 then takeM s1 127 else some s1)with
  |none=>wrongM s
  |some s2=>
   match carriesM s2 k with
   |none=>wrongM s
   |some s3=> .ok {jumpM s3 op k with closed:=op==12}
def leaveM (s:Bd):Res:=
 match carriesM s 0 with
 |none=>wrongM s
 |some s1=> .ok {jumpM s1 12 0 with closed:=true}
def labelsM (c:Ctx):Nat→Bd→Except (Int×Int) (List Nat×Bd)
 |0,s=> .ok ([],s)
 |n+1,s=>match labelM c s with
  | .error e=> .error e
  | .ok (k,s1)=>match labelsM c n s1 with
   | .error e=> .error e
   | .ok (l,s2)=> .ok (k::l,s2)
def alikeM (s:Bd) (l:List Nat):Bool:=l.all fun k=>valueM (s.bk k)==valueM (s.bk (l.getD 0 0))
def jumpAll (l:List Nat) (s:Bd):Bd:=l.foldl (fun s k=>jumpM s 12 k) s
def tableM (c:Ctx) (s:Bd):Res:=
 match belowM c.D 17 s.i with
 | .error e=> .error e
 | .ok (n,j)=>
  match labelsM c (n+1) {s with i:=j}with
  | .error e=> .error e
  | .ok (l,s1)=>
   match takeM s1 127 with
   |none=>wrongM s
   |some s2=>
    match carriesM s2 (l.getD n 0)with
    |none=>wrongM s
    |some s3=>if alikeM s3 l then .ok {jumpAll l (emitM s3 ⟨14,n,0,0,0⟩)with closed:=true}else wrongM s
def callM (c:Ctx) (s:Bd):Res:=
 match belowM c.D c.funcs.length s.i with
 | .error e=> .error e
 | .ok (n,j)=>
  match takeAllM {s with i:=j} (c.funcs.getD n ([],[])).1 with
  |none=>wrongM s
  |some s1=> .ok (putM (emitM s1 ⟨16,n,0,0,0⟩) (c.funcs.getD n ([],[])).2)
def dropM (s:Bd):Res:=
 match takeAnyM s with
 |none=>wrongM s
 |some (_,s1)=> .ok (emitM s1 ⟨26,0,0,0,0⟩)
def chooseM (s:Bd):Res:=
 match takeM s 127 with
 |none=>wrongM s
 |some s1=>
  match takeAnyM s1 with
  |none=>wrongM s
  |some (t,s2)=>
   match takeM s2 t with
   |none=>wrongM s
   |some s3=> .ok (putM (emitM s3 ⟨27,0,0,0,0⟩) [t])
def localM (c:Ctx) (op:UInt8) (s:Bd):Res:=
 match belowM c.D c.locals.length s.i with
 | .error e=> .error e
 | .ok (n,j)=>
  match (if op=32 then some {s with i:=j}else takeM {s with i:=j} (c.locals.getD n 0))with
  |none=>wrongM s
  |some s1=> .ok (if op=33 then emitM s1 ⟨op,n,0,0,0⟩else putM (emitM s1 ⟨op,n,0,0,0⟩) [c.locals.getD n 0])
def globalM (c:Ctx) (op:UInt8) (s:Bd):Res:=
 match belowM c.D c.gl.length s.i with
 | .error e=> .error e
 | .ok (n,j)=>
  if op=36 then
   if (c.gl.getD n (0,false)).2 then
    match takeM {s with i:=j} (c.gl.getD n (0,false)).1 with
    |none=>wrongM s
    |some s1=> .ok (emitM s1 ⟨op,n,0,0,0⟩)
   else wrongM s
  else .ok (putM (emitM {s with i:=j} ⟨op,n,0,0,0⟩) [(c.gl.getD n (0,false)).1])

structure RowT where
 fr:UInt8
 upto:UInt8
 behind:Nat
 takes:List UInt8
 gives:List UInt8
def rowsM:List RowT:=[⟨0x00,0x00,4,[],[]⟩,⟨0x01,0x01,0,[],[]⟩,⟨0x02,0x05,4,[],[]⟩,⟨0x0b,0x10,4,[],[]⟩,⟨0x1a,0x1b,4,[],[]⟩,⟨0x20,0x24,4,[],[]⟩,
 ⟨0x28,0x28,1,[127],[127]⟩,⟨0x29,0x29,1,[127],[126]⟩,⟨0x2c,0x2d,1,[127],[127]⟩,⟨0x36,0x36,1,[127,127],[]⟩,⟨0x37,0x37,1,[127,126],[]⟩,⟨0x3a,0x3a,1,[127,127],[]⟩,
 ⟨0x3f,0x3f,0,[],[127]⟩,⟨0x40,0x40,0,[127],[127]⟩,⟨0x41,0x41,2,[],[127]⟩,⟨0x42,0x42,3,[],[126]⟩,⟨0x45,0x45,0,[127],[127]⟩,⟨0x46,0x4f,0,[127,127],[127]⟩,
 ⟨0x50,0x50,0,[126],[127]⟩,⟨0x51,0x5a,0,[126,126],[127]⟩,⟨0x67,0x69,0,[127],[127]⟩,⟨0x6a,0x78,0,[127,127],[127]⟩,⟨0x79,0x7b,0,[126],[126]⟩,⟨0x7c,0x8a,0,[126,126],[126]⟩,
 ⟨0xa7,0xa7,0,[126],[127]⟩,⟨0xac,0xad,0,[127],[126]⟩,⟨0xe0,0xe0,0,[126],[126]⟩,⟨0xe1,0xe1,0,[126,126],[]⟩]
def findM (op:UInt8):Option RowT:=rowsM.find? fun r=>decide (r.fr≤op)&&decide (op≤r.upto)
def behindM (D:List UInt8) (b:Nat) (i:Nat):Except (Int×Int) (Nat×Nat):=
 if b=1 then UM D i
 else if b=2 then match S32M D i with
  | .error e=> .error e
  | .ok (n,j)=> .ok ((n%4294967296).toNat,j)
 else if b=3 then match S64M D i with
  | .error e=> .error e
  | .ok (n,j)=> .ok ((n%18446744073709551616).toNat,j)
 else .ok (0,i)
def plainB (c:Ctx) (op:UInt8) (r:RowT) (s:Bd):Res:=
 match behindM c.D r.behind s.i with
 | .error e=> .error e
 | .ok (n,j)=>
  match takeAllM {s with i:=j} r.takes with
  |none=>wrongM s
  |some s1=> .ok (putM (emitM s1 ⟨op,n,0,0,0⟩) r.gives)
def specialM (c:Ctx) (op:UInt8) (s:Bd):Res:=
 if op=0 then stopM s
 else if op=2∨op=3∨op=4 then openM c op s
 else if op=5 then turnM s
 else if op=11 then endM s
 else if op=12∨op=13 then branchM c op s
 else if op=14 then tableM c s
 else if op=15 then leaveM s
 else if op=16 then callM c s
 else if op=26 then dropM s
 else if op=27 then chooseM s
 else if op=35∨op=36 then globalM c op s
 else localM c op s
def stepM (c:Ctx) (s:Bd):Res:=
 match byteM c.D s.i with
 | .error e=> .error e
 | .ok (op,j)=>
  match findM op with
  |none=> .error (2,s.i)
  |some r=>
   if s.closed=true∧op≠5∧op≠11 then .error (3,s.i)
   else if r.behind=4 then specialM c op {s with pos:=s.i,i:=j}
   else plainB c op r {s with pos:=s.i,i:=j}
def lookM (c:Ctx):Nat→Bd→Res
 |0,s=> .ok s
 |n+1,s=>
  if s.blocks=[]then (if s.i<c.D.length then .error (2,s.i)else .ok s)
  else match stepM c s with
   | .error e=> .error e
   | .ok s1=>lookM c n s1

end Go.Proofs.YtdeplgkhmebalaaGreatDoor

set_option linter.unusedSimpArgs false
set_option linter.unusedVariables false
namespace Go.Proofs.YtdeplgkhmebalaaGreatDoor
open Go.RowKit

abbrev Rd (α:Type):=Except (Int×Int) (α×Nat)

def manyM {α:Type} (one:Nat→Rd α):Nat→Nat→Rd (List α)
 |0,i=> .ok ([],i)
 |n+1,i=>match one i with
  | .error e=> .error e
  | .ok (x,j)=>match manyM one n j with
   | .error e=> .error e
   | .ok (l,k)=> .ok (x::l,k)
def listM (D:List UInt8) (most:Nat) (i:Nat):Rd (List UInt8):=
 match belowM D (most+1) i with
 | .error e=> .error e
 | .ok (n,j)=>manyM (oneOfM D [127,126]) n j
def typeM (D:List UInt8) (i:Nat):Rd Ty:=
 match listM D 8 i with
 | .error e=> .error e
 | .ok (p,j)=>match listM D 1 j with
  | .error e=> .error e
  | .ok (r,k)=> .ok ((p,r),k)
def typesM (D:List UInt8) (i:Nat):Rd (List Ty):=
 match belowM D 17 i with
 | .error e=> .error e
 | .ok (n,j)=>manyM (typeM D) n j
def funcsM (D:List UInt8) (ts:List Ty) (i:Nat):Rd (List Ty):=
 match belowM D 17 i with
 | .error e=> .error e
 | .ok (n,j)=>manyM (fun i=>match belowM D ts.length i with
   | .error e=> .error e
   | .ok (k,j)=> .ok (ts.getD k ([],[]),j)) n j
def valueAtM (D:List UInt8) (t:UInt8) (i:Nat):Rd Nat:=behindM D (if t=127 then 2 else 3) i
def globM (D:List UInt8) (i:Nat):Rd ((UInt8×Bool)×Nat):=
 match oneOfM D [127,126] i with
 | .error e=> .error e
 | .ok (t,j)=>match oneOfM D [0,1] j with
  | .error e=> .error e
  | .ok (f,k)=>match valueAtM D t k with
   | .error e=> .error e
   | .ok (v,m)=> .ok (((t,f==1),v),m)
def globsM (D:List UInt8) (i:Nat):Rd (List ((UInt8×Bool)×Nat)):=
 match belowM D 9 i with
 | .error e=> .error e
 | .ok (n,j)=>manyM (globM D) n j
def magicM (D:List UInt8) (i:Nat):Rd Unit:=
 match oneOfM D [83] i with
 | .error e=> .error e
 | .ok (_,j)=>match oneOfM D [84] j with
  | .error e=> .error e
  | .ok (_,k)=>match oneOfM D [75] k with
   | .error e=> .error e
   | .ok (_,l)=>match oneOfM D [1] l with
    | .error e=> .error e
    | .ok (_,m)=> .ok ((),m)

structure FnM where
 typ:Ty
 locals:Nat
 entry:Nat
structure Flat where
 funcs:List FnM
 globals:List Nat
 pages:Nat
 code:List Ins

def bodyM (D:List UInt8) (ts:List Ty) (gl:List (UInt8×Bool)) (typ:Ty) (code:List Ins) (i:Nat):Rd (FnM×List Ins):=
 match UM D i with
 | .error e=> .error e
 | .ok (size,j)=>
  if D.length -j<size then .error (2,i)
  else
   let P:=D.take (j+size)
   match listM P (32 -typ.1.length) j with
   | .error e=> .error e
   | .ok (more,k)=>
    match lookM ⟨P,ts,gl,typ.1++more⟩ 2001 ⟨k,code,[],[⟨0,typ.2,0,0,[]⟩],0,false⟩with
    | .error e=> .error e
    | .ok s=> .ok ((⟨typ,typ.1.length+more.length,code.length⟩,s.code),j+size)
def bodiesM (D:List UInt8) (ts:List Ty) (gl:List (UInt8×Bool)):List Ty→List Ins→Nat→Rd (List FnM×List Ins)
 |[],code,i=> .ok (([],code),i)
 |t::rest,code,i=>match bodyM D ts gl t code i with
  | .error e=> .error e
  | .ok ((f,code1),j)=>match bodiesM D ts gl rest code1 j with
   | .error e=> .error e
   | .ok ((fs,code2),k)=> .ok ((f::fs,code2),k)
def loadM (D:List UInt8):Except (Int×Int) Flat:=
 if 2000<D.length then .error (1,0)
 else match magicM D 0 with
 | .error e=> .error e
 | .ok (_,i1)=>match typesM D i1 with
  | .error e=> .error e
  | .ok (ts,i2)=>match funcsM D ts i2 with
   | .error e=> .error e
   | .ok (fs,i3)=>match globsM D i3 with
    | .error e=> .error e
    | .ok (gs,i4)=>match belowM D 5 i4 with
     | .error e=> .error e
     | .ok (pages,i5)=>match bodiesM D fs (gs.map (·.1)) fs [] i5 with
      | .error e=> .error e
      | .ok ((fns,code),i6)=>if i6<D.length then .error (2,i6)else .ok ⟨fns,gs.map (·.2),pages,code⟩

end Go.Proofs.YtdeplgkhmebalaaGreatDoor

set_option linter.unusedSimpArgs false
set_option linter.unusedVariables false
set_option maxRecDepth 100000
namespace Go.Proofs.YtdeplgkhmebalaaGreatDoor
open Go.RowKit

def asR {α:Type} (z:α):Except (Int×Int) (α×Nat)→α×Rf.PS
 | .ok x=>(x.1,.ok x.2)
 | .error e=>(z,.error e)
theorem grp_fwd {D:List UInt8} {st:Int}: ∀(r i j:Nat),grpGo D st r i= .ok j→i≤j
 |0,_,_,h=>by cases h
 |r+1,i,j,h=>by
  rw[grpGo]at h
  split at h
  ·split at h
   ·cases h;omega
   ·have :=grp_fwd r (i+1) j h;omega
  ·cases h
theorem grp_end {D:List UInt8} {st:Int}: ∀(r i j:Nat),grpGo D st r i= .ok j→j≤D.length
 |0,_,_,h=>by cases h
 |r+1,i,j,h=>by
  rw[grpGo]at h
  split at h
  ·split at h
   ·cases h;omega
   ·exact grp_end r (i+1) j h
  ·cases h
section
variable{E:Rf.PE} {i:Nat} (he:E.en≤E.data.length)
include he
theorem rf_len:(E.data.take E.en).length=E.en:=by rw[List.length_take];omega
theorem rf_next (hi:i≤E.en):Rf.nextM E (.ok i)=asR 0 (byteM (E.data.take E.en) i):=by
 unfold Rf.nextM byteM
 simp only
 rw[rf_len he]
 by_cases h:E.en≤i
 ·rw[if_pos h,if_neg (by omega)]
  have :i=E.en:=by omega
  subst this
  rfl
 ·rw[if_neg h,if_pos (by omega)]
  show _=((E.data.take E.en).getD i 0,Except.ok (i+1))
  rw[List.getD_eq_getElem?_getD,List.getD_eq_getElem?_getD,List.getElem?_take,if_pos (by omega)]
theorem rf_grp (st:Int): ∀(r i:Nat) (bits:List Bool),i≤E.en→Rf.numGo E st r bits (.ok i)=match grpGo (E.data.take E.en) st r i with
  | .ok j=>(bits++(((E.data.take E.en).take j).drop i).flatMap Rf.bits7,.ok j)
  | .error e=>([],.error e):=by
 intro r
 induction r with
 |zero=>intro i bits _;rfl
 |succ r ih=>
  intro i bits hi
  have hnx:=rf_next he hi
  unfold byteM at hnx
  rw[rf_len he]at hnx
  by_cases h:i<E.en
  ·rw[if_pos h]at hnx
   have hl:i<(E.data.take E.en).length:=by rw[rf_len he];exact h
   have hg:grpGo (E.data.take E.en) st (r+1) i=if ((E.data.take E.en).getD i 0).toNat<128 then .ok (i+1)else grpGo (E.data.take E.en) st r (i+1):=by rw[grpGo,if_pos hl]
   have hn:Rf.numGo E st (r+1) bits (.ok i)=if 128≤(E.data.take E.en).getD i 0 then Rf.numGo E st r (bits++Rf.bits7 ((E.data.take E.en).getD i 0)) (.ok (i+1))else (bits++Rf.bits7 ((E.data.take E.en).getD i 0),.ok (i+1)):=by
    rw[Rf.numGo,hnx]
    rfl
   rw[hn,hg]
   by_cases h8:((E.data.take E.en).getD i 0).toNat<128
   ·rw[if_neg (by rw[UInt8.le_iff_toNat_le];show ¬128≤_;omega),if_pos h8]
    have hc:(((E.data.take E.en).take (i+1)).drop i)=[(E.data.take E.en).getD i 0]:=by
     rw[List.take_add_one,List.drop_append_of_le_length (by rw[List.length_take];omega),List.drop_eq_nil_of_le (by rw[List.length_take];omega),List.getElem?_eq_getElem hl,List.getD_eq_getElem?_getD,List.getElem?_eq_getElem hl]
     rfl
    simp only[hc,List.flatMap_cons,List.flatMap_nil,List.append_nil]
   ·rw[if_pos (by rw[UInt8.le_iff_toNat_le];show 128≤_;omega),if_neg h8,ih (i+1) _ (by omega)]
    cases hgr:grpGo (E.data.take E.en) st r (i+1)with
    |error e=>rfl
    |ok j=>
     have hij:i+1≤j:=grp_fwd r (i+1) j hgr
     have hjl:j≤(E.data.take E.en).length:=grp_end r (i+1) j hgr
     have e:((E.data.take E.en).take j).drop i=(E.data.take E.en).getD i 0::((E.data.take E.en).take j).drop (i+1):=by
      have hl2:i<((E.data.take E.en).take j).length:=by rw[List.length_take];omega
      rw[List.drop_eq_getElem_cons hl2,List.getElem_take,List.getD_eq_getElem?_getD,List.getElem?_eq_getElem hl]
      rfl
     simp only[e,List.flatMap_cons,List.append_assoc]
  ·rw[if_neg h]at hnx
   have hg:grpGo (E.data.take E.en) st (r+1) i= .error (2,(i:Int)):=by rw[grpGo,if_neg (by rw[rf_len he];exact h)]
   rw[Rf.numGo,hnx,hg]
   rfl
theorem rf_number (most:Nat) (hi:i≤E.en):Rf.numberM E most (.ok i)=asR [] (match groupsM (E.data.take E.en) most i with | .ok (g,j)=> .ok (g.flatMap Rf.bits7,j)| .error e=> .error e):=by
 unfold Rf.numberM groupsM
 rw[show Rf.PS.place (.ok i)=(i:Int)from rfl,rf_grp he _ most i [] hi]
 split
 ·rename_i j hj
  simp only[hj,List.nil_append]
  rfl
 ·rename_i e hj
  simp only[hj]
  rfl
end
theorem valOf_app (a b:List Bool):Rf.valOf (a++b)=Rf.valOf a+2^a.length*Rf.valOf b:=by
 induction a with
 |nil=>simp[Rf.valOf]
 |cons x a ih=>
  simp only[List.cons_append,Rf.valOf,ih,List.length_cons,Nat.pow_succ]
  rw[Nat.mul_add,←Nat.mul_assoc,Nat.mul_comm 2 (2^a.length)]
  omega
theorem bits7_all: ∀x:Fin 256,Rf.valOf (Rf.bits7 (UInt8.ofNat x.val))=x.val%128:=by decide +kernel
theorem bits7_val (c:UInt8):Rf.valOf (Rf.bits7 c)=c.toNat%128:=by
 have :=bits7_all ⟨c.toNat,c.toNat_lt⟩
 simpa using this
theorem flat_bits (g:List UInt8):(g.flatMap Rf.bits7).length=7*g.length:=by
 induction g with
 |nil=>rfl
 |cons c g ih=>rw[List.flatMap_cons,List.length_append,ih,Rf.bits7_length,List.length_cons];omega
theorem valOf_lt2 (l:List Bool):Rf.valOf l<2^l.length:=Rf.valOf_lt l
theorem same_iff (l:List Bool) (k:Nat) (hk:k≤l.length):Rf.sameM l k false=true↔Rf.valOf l<2^k:=by
 have h0: ∀m:List Bool,m.all (fun b=>b==false)=true↔Rf.valOf m=0:=by
  intro m
  induction m with
  |nil=>simp[Rf.valOf]
  |cons b m ih=>
   simp only[List.all_cons,Bool.and_eq_true,beq_iff_eq,Rf.valOf]
   rw[ih]
   cases b<;>simp <;>omega
 unfold Rf.sameM
 rw[h0]
 have e:l=l.take k++l.drop k:=(List.take_append_drop k l).symm
 have hl:(l.take k).length=k:=by rw[List.length_take];omega
 have hv:Rf.valOf l=Rf.valOf (l.take k)+2^k*Rf.valOf (l.drop k):=by
  conv =>lhs;rw[e]
  rw[valOf_app,hl]
 have ht:=Rf.valOf_lt (l.take k)
 rw[hl]at ht
 rw[hv]
 constructor
 ·intro h;rw[h];omega
 ·intro h
  rcases Nat.eq_zero_or_pos (Rf.valOf (l.drop k))with h1|h1
  ·exact h1
  ·have :2^k*1≤2^k*Rf.valOf (l.drop k):=Nat.mul_le_mul_left _ h1
   omega
theorem join_bits (g:List UInt8): ∀k,k≤g.length→k≤9→joinTo g k=Rf.valOf ((g.take k).flatMap Rf.bits7)
 |0,_,_=>rfl
 |k+1,hg,hk=>by
  have ih:=join_bits g k (by omega) (by omega)
  have hlen:((g.take k).flatMap Rf.bits7).length=7*k:=by rw[flat_bits,List.length_take];omega
  have hlt:=Rf.valOf_lt ((g.take k).flatMap Rf.bits7)
  rw[hlen]at hlt
  have hp:((g.getD k 0).toNat%128)*2^(7*k)<18446744073709551616:=by
   have h1:2^(7*k)≤2^56:=Nat.pow_le_pow_right (by decide) (by omega)
   have h2:((g.getD k 0).toNat%128)*2^(7*k)≤127*2^56:=Nat.mul_le_mul (by omega) h1
   omega
  have et:g.take (k+1)=g.take k++[g.getD k 0]:=by
   rw[List.take_add_one,List.getD_eq_getElem?_getD,List.getElem?_eq_getElem (by omega)]
   rfl
  rw[joinTo,ih,Nat.mod_eq_of_lt hp,et,List.flatMap_append,valOf_app,hlen,Nat.or_comm,Nat.mul_comm,←Nat.two_pow_add_eq_or_of_lt hlt]
  simp only[List.flatMap_cons,List.flatMap_nil,List.append_nil,bits7_val]
  omega
end Go.Proofs.YtdeplgkhmebalaaGreatDoor

set_option linter.unusedSimpArgs false
set_option linter.unusedVariables false
namespace Go.Proofs.YtdeplgkhmebalaaGreatDoor
open Go.RowKit

def Like {α:Type} (r:α×Rf.PS) (m:Except (Int×Int) (α×Nat)):Prop:=match m with
 | .ok x=>r=(x.1,.ok x.2)
 | .error e=>r.2= .error e
theorem Like.ok {α:Type} {r:α×Rf.PS} {m:Except (Int×Int) (α×Nat)} (h:Like r m) {x:α} {j:Nat} (e:m= .ok (x,j)):r=(x,.ok j):=by rw[e]at h;exact h
theorem Like.err {α:Type} {r:α×Rf.PS} {m:Except (Int×Int) (α×Nat)} (h:Like r m) {e:Int×Int} (he:m= .error e):r.2= .error e:=by rw[he]at h;exact h
theorem asR_like {α:Type} {z:α} {m:Except (Int×Int) (α×Nat)} {r:α×Rf.PS} (h:r=asR z m):Like r m:=by
 rw[h]
 cases m with
 |ok x=>rfl
 |error e=>rfl
theorem grp_last {D:List UInt8} {st:Int}: ∀(r i j:Nat),grpGo D st r i= .ok j→i<j∧j≤i+r∧(D.getD (j -1) 0).toNat<128
 |0,_,_,h=>by cases h
 |r+1,i,j,h=>by
  rw[grpGo]at h
  split at h
  ·split at h
   ·rename_i h8
    cases h
    exact⟨by omega,by omega,h8⟩
   ·obtain⟨a,b,c⟩:=grp_last r (i+1) j h
    exact⟨by omega,by omega,c⟩
  ·cases h
theorem groups_last {D:List UInt8} {m i:Nat} {g:List UInt8} {j:Nat} (h:groupsM D m i= .ok (g,j)):0<g.length∧g.length≤m∧(g.getD (g.length -1) 0).toNat<128:=by
 unfold groupsM at h
 split at h
 ·rename_i j' hj
  cases h
  obtain⟨a,b,c⟩:=grp_last m i j hj
  have d:=grp_end m i j hj
  have hl:((D.take j).drop i).length=j -i:=by rw[List.length_drop,List.length_take];omega
  rw[hl]
  refine⟨by omega,by omega,?_⟩
  rw[List.getD_eq_getElem?_getD,List.getElem?_drop,List.getElem?_take,if_pos (by omega),show i+(j -i -1)=j -1 by omega,←List.getD_eq_getElem?_getD]
  exact c
 ·cases h
theorem last_spl (l:List UInt8) (h:0<l.length):l=l.take (l.length -1)++[l.getD (l.length -1) 0]:=by
 have e:l.getD (l.length -1) 0=l[l.length -1]'(by omega):=by simp[List.getD_eq_getElem?_getD,List.getElem?_eq_getElem (show l.length -1<l.length by omega)]
 rw[e,List.take_append_getElem,List.take_of_length_le (by omega)]
theorem bits_last {g:List UInt8} (h0:0<g.length):Rf.valOf (g.flatMap Rf.bits7)=Rf.valOf ((g.take (g.length -1)).flatMap Rf.bits7)+2^(7*(g.length -1))*((g.getD (g.length -1) 0).toNat%128)∧Rf.valOf ((g.take (g.length -1)).flatMap Rf.bits7)<2^(7*(g.length -1)):=by
 have hl:((g.take (g.length -1)).flatMap Rf.bits7).length=7*(g.length -1):=by rw[flat_bits,List.length_take];omega
 have hlt:=Rf.valOf_lt ((g.take (g.length -1)).flatMap Rf.bits7)
 rw[hl]at hlt
 refine⟨?_,hlt⟩
 conv =>lhs;rw[last_spl g h0]
 rw[List.flatMap_append,valOf_app,hl]
 simp only[List.flatMap_cons,List.flatMap_nil,List.append_nil,bits7_val]
section
variable{E:Rf.PE} {i:Nat} (he:E.en≤E.data.length)
include he
theorem rf_u (most:Int) (hi:i≤E.en):Like (Rf.uM E most (.ok i)) (belowM (E.data.take E.en) (most+1) i):=by
 refine asR_like (z:=0) ?_
 unfold Rf.uM belowM UM
 rw[rf_number he 5 hi]
 cases hg:groupsM (E.data.take E.en) 5 i with
 |error e=>rfl
 |ok x=>
  obtain⟨g,j⟩:=x
  obtain⟨g0,g5,g8⟩:=groups_last hg
  have hbl:=flat_bits g
  have hj:=join_bits g g.length (Nat.le_refl _) (by omega)
  rw[List.take_length]at hj
  obtain⟨hv,hlt⟩:=bits_last g0
  have hvl:=Rf.valOf_lt (g.flatMap Rf.bits7)
  rw[hbl]at hvl
  have hlong:(7<(g.flatMap Rf.bits7).length∧Rf.sameM (g.flatMap Rf.bits7) ((g.flatMap Rf.bits7).length -7) false=true)↔paddedM g=true:=by
   rw[same_iff _ _ (by omega),hbl]
   unfold paddedM
   simp only[Bool.and_eq_true,decide_eq_true_eq,beq_iff_eq]
   rw[show 7*g.length -7=7*(g.length -1)by omega,hv]
   have hz:g.getD (g.length -1) 0=0↔(g.getD (g.length -1) 0).toNat%128=0:=by
    rw[←UInt8.toNat_inj]
    show _=0↔_
    omega
   rw[hz]
   have hp:0<2^(7*(g.length -1)):=Nat.pow_pos (by decide)
   constructor
   ·rintro⟨a,b⟩
    refine⟨by omega,?_⟩
    rcases Nat.eq_zero_or_pos ((g.getD (g.length -1) 0).toNat%128)with h|h
    ·exact h
    ·have :2^(7*(g.length -1))*1≤2^(7*(g.length -1))*((g.getD (g.length -1) 0).toNat%128):=Nat.mul_le_mul_left _ h
     omega
   ·rintro⟨a,b⟩
    rw[b]
    exact⟨by omega,by omega⟩
  have hgreat:(32<(g.flatMap Rf.bits7).length∧Rf.sameM (g.flatMap Rf.bits7) 32 false=false)↔4294967295<Rf.valOf (g.flatMap Rf.bits7):=by
   by_cases h32:32<(g.flatMap Rf.bits7).length
   ·have :=same_iff (g.flatMap Rf.bits7) 32 (by omega)
    rw[←Bool.not_eq_true,this]
    constructor
    ·rintro⟨-,b⟩;omega
    ·intro b;exact⟨h32,by omega⟩
   ·have :2^(7*g.length)≤2^32:=Nat.pow_le_pow_right (by decide) (by omega)
    constructor
    ·rintro⟨a,-⟩;omega
    ·intro b;omega
  show(if Rf.badM (Except.ok j)=true then ((0:Nat),(Except.ok j:Rf.PS))else if (7<(g.flatMap Rf.bits7).length∧Rf.sameM (g.flatMap Rf.bits7) ((g.flatMap Rf.bits7).length -7) false=true)∨(32<(g.flatMap Rf.bits7).length∧Rf.sameM (g.flatMap Rf.bits7) 32 false=false)∨most<(Rf.valOf (g.flatMap Rf.bits7):Int)then (0,Except.error (2,(i:Int)))else (Rf.valOf (g.flatMap Rf.bits7),Except.ok j))=
   asR 0 (match (if 4294967295<joinTo g g.length∨paddedM g=true then Except.error (2,(i:Int))else Except.ok (joinTo g g.length,j))with | .error e=> .error e| .ok (n,j)=>if most+1≤(n:Int)then .error (2,(i:Int))else .ok (n,j))
  rw[if_neg (show ¬Rf.badM (Except.ok j)=true by simp[Rf.badM]),hj]
  by_cases h1:4294967295<Rf.valOf (g.flatMap Rf.bits7)∨paddedM g=true
  ·rw[if_pos h1,if_pos (by
    rcases h1 with h1|h1
    ·exact .inr (.inl (hgreat.2 h1))
    ·exact .inl (hlong.2 h1))]
   rfl
  ·rw[if_neg h1]
   simp only
   by_cases h2:most+1≤(Rf.valOf (g.flatMap Rf.bits7):Int)
   ·rw[if_pos h2,if_pos (.inr (.inr (by omega)))]
    rfl
   ·rw[if_neg h2,if_neg (by
     rintro(h|h|h)
     ·exact h1 (.inr (hlong.1 h))
     ·exact h1 (.inl (hgreat.1 h))
     ·omega)]
    rfl
end
end Go.Proofs.YtdeplgkhmebalaaGreatDoor

set_option linter.unusedSimpArgs false
set_option linter.unusedVariables false
namespace Go.Proofs.YtdeplgkhmebalaaGreatDoor
open Go.RowKit

def Rb {α:Type} (n:Nat) (m:Except (Int×Int) (α×Nat)):Prop:=match m with
 | .ok x=>x.2≤n
 | .error e=>1≤e.1∧e.1≤3∧0≤e.2∧e.2≤n
def Eb (n:Nat) (e:Int×Int):Prop:=1≤e.1∧e.1≤3∧0≤e.2∧e.2≤n
theorem eb2 {n i:Nat} (h:i≤n):Eb n (2,(i:Int)):=⟨by show(1:Int)≤2;decide,by show(2:Int)≤3;decide,by show(0:Int)≤(i:Int);omega,by show(i:Int)≤(n:Int);omega⟩
theorem eb3 {n i:Nat} (h:i≤n):Eb n (3,(i:Int)):=⟨by show(1:Int)≤3;decide,by show(3:Int)≤3;decide,by show(0:Int)≤(i:Int);omega,by show(i:Int)≤(n:Int);omega⟩
theorem Rb.err {α:Type} {n:Nat} {m:Except (Int×Int) (α×Nat)} (h:Rb n m) {e:Int×Int} (he:m= .error e):Eb n e:=by rw[he]at h;exact h
theorem Rb.ok {α:Type} {n:Nat} {m:Except (Int×Int) (α×Nat)} (h:Rb n m) {x:α} {j:Nat} (he:m= .ok (x,j)):j≤n:=by rw[he]at h;exact h
theorem Eb.le {n m:Nat} {e:Int×Int} (h:Eb n e) (hm:n≤m):Eb m e:=⟨h.1,h.2.1,h.2.2.1,by have :=h.2.2.2;omega⟩
section
variable{D:List UInt8} {i:Nat}
theorem byte_rb (h:i≤D.length):Rb D.length (byteM D i):=by
 unfold byteM
 split
 ·rename_i h1;exact h1
 ·exact eb2 h
theorem grp_rb (st:Nat) (hs:st≤D.length): ∀(r i:Nat),i≤D.length→(∀j,grpGo D (st:Int) r i= .ok j→j≤D.length)∧(∀e,grpGo D (st:Int) r i= .error e→Eb D.length e):=by
 intro r
 induction r with
 |zero=>intro i _;exact⟨fun j h=>(by cases h),fun e h=>(by cases h;exact eb2 hs)⟩
 |succ r ih=>
  intro i hi
  rw[grpGo]
  by_cases h1:i<D.length
  ·rw[if_pos h1]
   by_cases h2:(D.getD i 0).toNat<128
   ·rw[if_pos h2];exact⟨fun j h=>(by cases h;exact h1),fun e h=>(by cases h)⟩
   ·rw[if_neg h2];exact ih (i+1) h1
  ·rw[if_neg h1];exact⟨fun j h=>(by cases h),fun e h=>(by cases h;exact eb2 hi)⟩
theorem groups_rb (m:Nat) (h:i≤D.length):Rb D.length (groupsM D m i):=by
 have :=grp_rb i h m i h
 unfold groupsM
 split
 ·rename_i j hj;exact this.1 _ hj
 ·rename_i e he;exact this.2 _ he
theorem U_rb (h:i≤D.length):Rb D.length (UM D i):=by
 have hg:=groups_rb 5 h
 unfold UM
 split
 ·rename_i e he;exact hg.err he
 ·rename_i g j he
  split
  ·exact eb2 h
  ·exact hg.ok he
theorem below_rb (lim:Int) (h:i≤D.length):Rb D.length (belowM D lim i):=by
 have hg:=U_rb h
 unfold belowM
 split
 ·rename_i e he;exact hg.err he
 ·rename_i n j he
  split
  ·exact eb2 h
  ·exact hg.ok he
theorem oneOf_rb (al:List UInt8) (h:i≤D.length):Rb D.length (oneOfM D al i):=by
 have hg:=byte_rb h
 unfold oneOfM
 split
 ·rename_i e he;exact hg.err he
 ·rename_i c j he
  split
  ·exact hg.ok he
  ·exact eb2 h
theorem behind_rb (b:Nat) (h:i≤D.length):Rb D.length (behindM D b i):=by
 unfold behindM
 split
 ·exact U_rb h
 split
 ·split
  ·rename_i e he
   unfold S32M at he
   split at he
   ·rename_i e' he';cases he;exact(groups_rb 5 h).err he'
   ·rename_i g j he'
    split at he
    ·cases he;exact eb2 h
    ·cases he
  ·rename_i n j he
   unfold S32M at he
   split at he
   ·cases he
   ·rename_i g j' he'
    split at he
    ·cases he
    ·cases he;exact(groups_rb 5 h).ok he'
 split
 ·split
  ·rename_i e he
   unfold S64M at he
   split at he
   ·rename_i e' he';cases he;exact(groups_rb 10 h).err he'
   ·rename_i g j he'
    split at he
    ·cases he;exact eb2 h
    ·cases he
  ·rename_i n j he
   unfold S64M at he
   split at he
   ·cases he
   ·rename_i g j' he'
    split at he
    ·cases he
    ·cases he;exact(groups_rb 10 h).ok he'
 ·exact h
theorem many_rb {α:Type} {n:Nat} {one:Nat→Rd α} (h1: ∀i,i≤n→Rb n (one i)): ∀(k i:Nat),i≤n→Rb n (manyM one k i):=by
 intro k
 induction k with
 |zero=>intro i h;exact h
 |succ k ih=>
  intro i h
  have hg:=h1 i h
  rw[manyM]
  split
  ·rename_i e he;exact hg.err he
  ·rename_i x j he
   have hk:=ih j (hg.ok he)
   split
   ·rename_i e he2;exact hk.err he2
   ·rename_i l k2 he2;exact hk.ok he2
theorem list_rb (most:Nat) (h:i≤D.length):Rb D.length (listM D most i):=by
 have hg:=below_rb (D:=D) ((most+1:Nat):Int) h
 unfold listM
 split
 ·rename_i e he;exact hg.err he
 ·rename_i n j he;exact many_rb (fun i hi=>oneOf_rb _ hi) n j (hg.ok he)
theorem type_rb (h:i≤D.length):Rb D.length (typeM D i):=by
 have hg:=list_rb (D:=D) 8 h
 unfold typeM
 split
 ·rename_i e he;exact hg.err he
 ·rename_i p j he
  have hk:=list_rb (D:=D) 1 (hg.ok he)
  split
  ·rename_i e he2;exact hk.err he2
  ·rename_i r k he2;exact hk.ok he2
theorem types_rb (h:i≤D.length):Rb D.length (typesM D i):=by
 have hg:=below_rb (D:=D) 17 h
 unfold typesM
 split
 ·rename_i e he;exact hg.err he
 ·rename_i n j he;exact many_rb (fun i hi=>type_rb hi) n j (hg.ok he)
theorem funcs_rb (ts:List Ty) (h:i≤D.length):Rb D.length (funcsM D ts i):=by
 have hg:=below_rb (D:=D) 17 h
 unfold funcsM
 split
 ·rename_i e he;exact hg.err he
 ·rename_i n j he
  refine many_rb (fun i hi=> ?_) n j (hg.ok he)
  have hb:=below_rb (D:=D) (ts.length:Int) hi
  split
  ·rename_i e he2;exact hb.err he2
  ·rename_i k j2 he2;exact hb.ok he2
theorem glob_rb (h:i≤D.length):Rb D.length (globM D i):=by
 have hg:=oneOf_rb (D:=D) [127,126] h
 unfold globM
 split
 ·rename_i e he;exact hg.err he
 ·rename_i t j he
  have hk:=oneOf_rb (D:=D) [0,1] (hg.ok he)
  split
  ·rename_i e he2;exact hk.err he2
  ·rename_i fl k he2
   have hv:=behind_rb (D:=D) (if t=127 then 2 else 3) (hk.ok he2)
   split
   ·rename_i e he3;exact hv.err he3
   ·rename_i v m he3;exact hv.ok he3
theorem globs_rb (h:i≤D.length):Rb D.length (globsM D i):=by
 have hg:=below_rb (D:=D) 9 h
 unfold globsM
 split
 ·rename_i e he;exact hg.err he
 ·rename_i n j he;exact many_rb (fun i hi=>glob_rb hi) n j (hg.ok he)
theorem magic_rb (h:i≤D.length):Rb D.length (magicM D i):=by
 have h1:=oneOf_rb (D:=D) [83] h
 unfold magicM
 split
 ·rename_i e he;exact h1.err he
 rename_i j he
 have h2:=oneOf_rb (D:=D) [84] (h1.ok he)
 split
 ·rename_i e he;exact h2.err he
 rename_i j2 he2
 have h3:=oneOf_rb (D:=D) [75] (h2.ok he2)
 split
 ·rename_i e he;exact h3.err he
 rename_i j3 he3
 have h4:=oneOf_rb (D:=D) [1] (h3.ok he3)
 split
 ·rename_i e he;exact h4.err he
 ·rename_i j4 he4;exact h4.ok he4
end
end Go.Proofs.YtdeplgkhmebalaaGreatDoor

set_option linter.unusedSimpArgs false
set_option linter.unusedVariables false
namespace Go.Proofs.YtdeplgkhmebalaaGreatDoor
open Go.RowKit

theorem types_bad (E:Rf.PE) (n:Nat) (l:List UInt8) (e:Int×Int):(Rf.typesGo E n l (.error e)).2= .error e:=by
 cases n with
 |zero=>rfl
 |succ n=>rw[Rf.typesGo,if_pos (show Rf.badM (Except.error e)=true from rfl)]
section
variable{E:Rf.PE} {i:Nat} (he:E.en≤E.data.length)
include he
theorem rf_need {a b c:UInt8} {al:List UInt8} (hal: ∀x,x∈al↔x=a∨x=b∨x=c) (hi:i≤E.en):Like (Rf.needM E a b c (.ok i)) (oneOfM (E.data.take E.en) al i):=by
 unfold Rf.needM oneOfM
 rw[rf_next he hi]
 cases hb:byteM (E.data.take E.en) i with
 |error e=>
  show(if _ then Rf.failM 2 _ (Except.error e)else Except.error e)=Except.error e
  split <;>rfl
 |ok x=>
  obtain⟨x,j⟩:=x
  show Like (x,if x≠a∧x≠b∧x≠c then Except.error (2,(i:Int))else Except.ok j) (if x∈al then Except.ok (x,j)else Except.error (2,(i:Int)))
  by_cases hm:x∈al
  ·have hx:=(hal x).1 hm
   rw[if_pos hm,if_neg (fun h=>hx.elim h.1 (fun q=>q.elim h.2.1 h.2.2))]
   rfl
  ·have hx: ¬(x=a∨x=b∨x=c):=fun e=>hm ((hal x).2 e)
   simp only[not_or]at hx
   rw[if_neg hm,if_pos ⟨hx.1,hx.2.1,hx.2.2⟩]
   rfl
theorem rf_many: ∀(n i:Nat) (l:List UInt8),i≤E.en→Like (Rf.typesGo E n l (.ok i)) (match manyM (oneOfM (E.data.take E.en) [127,126]) n i with | .ok (m,j)=> .ok (l++m,j)| .error e=> .error e):=by
 intro n
 induction n with
 |zero=>
  intro i l _
  show(l,Except.ok i)=(l++[],Except.ok i)
  rw[List.append_nil]
 |succ n ih=>
  intro i l hi
  have hn:=rf_need he (a:=127) (b:=126) (c:=126) (al:=[127,126]) (by intro x;simp) hi
  have hr:=oneOf_rb (D:=E.data.take E.en) (i:=i) [127,126] (by rw[rf_len he];exact hi)
  rw[Rf.typesGo,if_neg (by simp[Rf.badM]),manyM]
  cases ho:oneOfM (E.data.take E.en) [127,126] i with
  |error e=>
   rw[hn.err ho]
   exact types_bad _ _ _ _
  |ok x=>
   obtain⟨x,j⟩:=x
   rw[hn.ok ho]
   have hj:=hr.ok ho
   rw[rf_len he]at hj
   have hk:=ih j (l++[x]) hj
   simp only
   cases hm:manyM (oneOfM (E.data.take E.en) [127,126]) n j with
   |error e=>rw[hm]at hk;exact hk
   |ok y=>
    obtain⟨m,q⟩:=y
    rw[hm]at hk
    show _=(l++(x::m),Except.ok q)
    have hk':Rf.typesGo E n (l++[x]) (Except.ok j)=(l++[x]++m,Except.ok q):=hk
    rw[hk',List.append_assoc]
    rfl
theorem rf_types (n:Nat) (hi:i≤E.en):Like (Rf.typesM E n (.ok i)) (manyM (oneOfM (E.data.take E.en) [127,126]) n i):=by
 have h:=rf_many he n i [] hi
 unfold Rf.typesM
 cases hm:manyM (oneOfM (E.data.take E.en) [127,126]) n i with
 |error e=>rw[hm]at h;exact h
 |ok y=>rw[hm]at h;exact h
end
end Go.Proofs.YtdeplgkhmebalaaGreatDoor

set_option linter.unusedSimpArgs false
set_option linter.unusedVariables false
namespace Go.Proofs.YtdeplgkhmebalaaGreatDoor
open Go.RowKit

theorem all_true: ∀m:List Bool,m.all (fun b=>b==true)=true↔Rf.valOf m+1=2^m.length
 |[]=>by simp[Rf.valOf]
 |b::m=>by
  have ih:=all_true m
  have hlt:=Rf.valOf_lt m
  simp only[List.all_cons,Bool.and_eq_true,beq_iff_eq,Rf.valOf,List.length_cons,Nat.pow_succ]
  rw[ih]
  cases b
  ·simp;omega
  ·simp;omega
theorem val_cut (l:List Bool) {k:Nat} (hk:k≤l.length):Rf.valOf l=Rf.valOf (l.take k)+2^k*Rf.valOf (l.drop k)∧Rf.valOf (l.take k)<2^k∧Rf.valOf (l.drop k)<2^(l.length -k):=by
 have hl:(l.take k).length=k:=by rw[List.length_take];omega
 have e:Rf.valOf l=Rf.valOf (l.take k++l.drop k):=by rw[List.take_append_drop]
 have h1:=Rf.valOf_lt (l.take k)
 have h2:=Rf.valOf_lt (l.drop k)
 rw[hl]at h1
 rw[List.length_drop]at h2
 rw[valOf_app,hl]at e
 exact⟨e,h1,h2⟩
theorem sign_iff (l:List Bool) (h0:0<l.length):Rf.signM l=true↔2^(l.length -1)≤Rf.valOf l:=by
 obtain⟨h1,h2,h3⟩:=val_cut l (k:=l.length -1) (by omega)
 have hd:l.drop (l.length -1)=[l.getD (l.length -1) false]:=by
  rw[List.drop_eq_getElem_cons (by omega),List.drop_eq_nil_of_le (by omega),List.getD_eq_getElem?_getD,List.getElem?_eq_getElem (by omega)]
  rfl
 rw[hd]at h1
 unfold Rf.signM
 cases hb:l.getD (l.length -1) false with
 |true=>
  rw[hb]at h1
  simp only[Rf.valOf,if_true]at h1
  constructor
  ·intro _;omega
  ·intro _;rfl
 |false=>
  rw[hb]at h1
  simp only[Rf.valOf,if_false,Bool.false_eq_true]at h1
  constructor
  ·intro h;cases h
  ·intro h;omega
theorem same_sign (l:List Bool) {k:Nat} (hk:k<l.length):Rf.sameM l k (Rf.signM l)=true↔(if Rf.signM l=true then 2^l.length -2^k≤Rf.valOf l else Rf.valOf l<2^k):=by
 obtain⟨h1,h2,h3⟩:=val_cut l (k:=k) (by omega)
 have hp:2^l.length=2^k*2^(l.length -k):=by rw[←Nat.pow_add];congr 1;omega
 cases hs:Rf.signM l with
 |false=>rw[if_neg (by decide)];exact same_iff l k (by omega)
 |true=>
  rw[if_pos rfl]
  unfold Rf.sameM
  rw[all_true,List.length_drop,h1,hp]
  generalize Rf.valOf (l.drop k)=v at *
  generalize Rf.valOf (l.take k)=u at *
  generalize 2^(l.length -k)=p at *
  generalize 2^k=q at *
  constructor
  ·intro e
   have :q*p=q*v+q:=by rw[←e,Nat.mul_add,Nat.mul_one]
   omega
  ·intro e
   rcases Nat.lt_or_ge (v+1) p with h|h
   ·have :q*(v+2)≤q*p:=Nat.mul_le_mul_left _ (by omega)
    rw[Nat.mul_add]at this
    omega
   ·omega
theorem ext_val (l:List Bool) (size:Nat) (sign:Bool):Rf.valOf (Rf.extM l size sign)=if size≤l.length then Rf.valOf l%2^size else Rf.valOf l+(if sign then 2^size -2^l.length else 0):=by
 have hrep: ∀n,Rf.valOf (List.replicate n sign)=if sign then 2^n -1 else 0:=by
  intro n
  induction n with
  |zero=>cases sign<;>rfl
  |succ n ih=>
   rw[List.replicate_succ,Rf.valOf,ih,Nat.pow_succ]
   have :=Nat.pow_pos (n:=n) (show 0<2 by decide)
   cases sign<;>simp <;>omega
 by_cases h:size≤l.length
 ·have e:Rf.extM l size sign=l.take size:=by
   apply List.ext_getElem
   ·rw[Rf.ext_length,List.length_take];omega
   ·intro q h1 h2
    have h3:q<size:=by rw[Rf.ext_length]at h1;exact h1
    have :=Rf.ext_get l size sign q h3
    rw[List.getD_eq_getElem?_getD,List.getElem?_eq_getElem h1,if_pos (by omega),List.getD_eq_getElem?_getD,List.getElem?_eq_getElem (by omega)]at this
    simp only[Option.getD_some]at this
    rw[this,List.getElem_take]
  obtain⟨h1,h2,-⟩:=val_cut l h
  rw[if_pos h,e,h1,Nat.add_mul_mod_self_left,Nat.mod_eq_of_lt h2]
 ·have e:Rf.extM l size sign=l++List.replicate (size -l.length) sign:=by
   apply List.ext_getElem
   ·rw[Rf.ext_length,List.length_append,List.length_replicate];omega
   ·intro q h1 h2
    have h3:q<size:=by rw[Rf.ext_length]at h1;exact h1
    have :=Rf.ext_get l size sign q h3
    rw[List.getD_eq_getElem?_getD,List.getElem?_eq_getElem h1]at this
    simp only[Option.getD_some]at this
    rw[this]
    by_cases hq:q<l.length
    ·rw[if_pos hq,List.getElem_append_left hq,List.getD_eq_getElem?_getD,List.getElem?_eq_getElem hq]
     rfl
    ·rw[if_neg hq,List.getElem_append_right (by omega),List.getElem_replicate]
  rw[if_neg h,e,valOf_app,hrep]
  have hp:2^size=2^l.length*2^(size -l.length):=by rw[←Nat.pow_add];congr 1;omega
  cases sign
  ·simp
  ·simp only[if_true]
   rw[hp,Nat.mul_sub,Nat.mul_one]
end Go.Proofs.YtdeplgkhmebalaaGreatDoor

set_option linter.unusedSimpArgs false
set_option linter.unusedVariables false
namespace Go.Proofs.YtdeplgkhmebalaaGreatDoor
open Go.RowKit

def gv (g:List UInt8):Nat:=Rf.valOf (g.flatMap Rf.bits7)
theorem gv_lt (g:List UInt8):gv g<2^(7*g.length):=by
 have :=Rf.valOf_lt (g.flatMap Rf.bits7)
 rwa[flat_bits]at this
theorem gv_one {g:List UInt8} (h0:0<g.length):gv g=gv (g.take (g.length -1))+2^(7*(g.length -1))*((g.getD (g.length -1) 0).toNat%128)∧gv (g.take (g.length -1))<2^(7*(g.length -1)):=bits_last h0
theorem gv_two {g:List UInt8} (h0:2≤g.length): ∃U,U<2^(7*(g.length -2))∧gv g=U+2^(7*(g.length -2))*((g.getD (g.length -2) 0).toNat%128)+2^(7*(g.length -1))*((g.getD (g.length -1) 0).toNat%128):=by
 obtain⟨h1,-⟩:=gv_one (g:=g) (by omega)
 have hl:(g.take (g.length -1)).length=g.length -1:=by rw[List.length_take];omega
 obtain⟨h2,h3⟩:=gv_one (g:=g.take (g.length -1)) (by omega)
 rw[hl]at h2 h3
 refine⟨_,h3,?_⟩
 rw[h1,h2,show g.length -1 -1=g.length -2 by omega]
 have :(g.take (g.length -1)).getD (g.length -2) 0=g.getD (g.length -2) 0:=by
  rw[List.getD_eq_getElem?_getD,List.getD_eq_getElem?_getD,List.getElem?_take,if_pos (by omega)]
 rw[this]
theorem signed9 {g:List UInt8} (h0:0<g.length) (h9:g.length≤9):signedM g=if 2^(7*g.length -1)≤gv g then (gv g:Int) -2^(7*g.length)else gv g:=by
 have hj:=join_bits g g.length (Nat.le_refl _) h9
 rw[List.take_length]at hj
 have hv:=gv_lt g
 unfold signedM
 rw[hj]
 show wrap64 ((gv g*2^aboveOf g.length%18446744073709551616:Nat):Int)/2^aboveOf g.length=_
 generalize gv g=V at *
 generalize g.length=n at *
 unfold aboveOf wrap64
 rcases(by omega :n=1∨n=2∨n=3∨n=4∨n=5∨n=6∨n=7∨n=8∨n=9)with rfl |rfl |rfl |rfl |rfl |rfl |rfl |rfl |rfl <;>simp only[Nat.reduceMul,Nat.reduceSub,Nat.reducePow,Int.reducePow]at * <;>split <;>omega
theorem signed10 {g:List UInt8} (h:g.length=10):signedM g=wrap64 ((gv g%18446744073709551616:Nat):Int):=by
 have hj:=join_bits g 9 (by omega) (by omega)
 obtain⟨h1,h2⟩:=gv_one (g:=g) (by omega)
 rw[h]at h1 h2
 simp only[Nat.reduceSub,Nat.reduceMul]at h1 h2
 have h2':joinTo g 9<2^63:=by rw[hj];exact h2
 have e:joinTo g 10=gv g%18446744073709551616:=by
  rw[joinTo,h1]
  have e1:((g.getD 9 0).toNat%128)*2^(7*9)%18446744073709551616=2^63*((g.getD 9 0).toNat%128%2):=by
   simp only[Nat.reduceMul,Nat.reducePow]
   omega
  rw[e1,Nat.or_comm,←Nat.two_pow_add_eq_or_of_lt h2',hj]
  show 2^63*_+gv (g.take 9)=_
  simp only[Nat.reducePow]at h2⊢
  omega
 unfold signedM
 rw[h,e]
 unfold aboveOf
 simp
theorem andSign_lt (x:UInt8):andSign x=true↔x.toNat%128<64:=by
 have key: ∀y:Fin 256,(andSign (UInt8.ofNat y.val)=true)=(y.val%128<64):=by
  have : ∀y:Fin 256,(andSign (UInt8.ofNat y.val))=decide (y.val%128<64):=by decide +kernel
  intro y;rw[this y];simp
 have :=key ⟨x.toNat,x.toNat_lt⟩
 simp only[UInt8.ofNat_toNat]at this
 rw[this]
theorem sign_gv {g:List UInt8} (h0:0<g.length):Rf.signM (g.flatMap Rf.bits7)=true↔2^(7*g.length -1)≤gv g:=by
 have :=sign_iff (g.flatMap Rf.bits7) (by rw[flat_bits];omega)
 rwa[flat_bits]at this
theorem long_iff {g:List UInt8} (h0:0<g.length) (h10:g.length≤10) (h8:(g.getD (g.length -1) 0).toNat<128):
  (7<(g.flatMap Rf.bits7).length∧Rf.sameM (g.flatMap Rf.bits7) ((g.flatMap Rf.bits7).length -8) (Rf.signM (g.flatMap Rf.bits7))=true)↔paddedSignedM g=true:=by
 unfold paddedSignedM
 by_cases h2:2≤g.length
 ·obtain⟨U,hU,hg⟩:=gv_two h2
  have hs:=sign_gv h0
  have hss:=same_sign (g.flatMap Rf.bits7) (k:=(g.flatMap Rf.bits7).length -8) (by rw[flat_bits];omega)
  rw[hss]
  simp only[flat_bits]at *
  change _↔_
  have hp:=andSign_lt (g.getD (g.length -2) 0)
  have hq0:(g.getD (g.length -1) 0==0)=decide ((g.getD (g.length -1) 0).toNat=0):=by
   rw[Bool.eq_iff_iff];simp only[beq_iff_eq,decide_eq_true_eq];rw[←UInt8.toNat_inj];rfl
  have hq7:(g.getD (g.length -1) 0==127)=decide ((g.getD (g.length -1) 0).toNat=127):=by
   rw[Bool.eq_iff_iff];simp only[beq_iff_eq,decide_eq_true_eq];rw[←UInt8.toNat_inj];rfl
  rw[hq0,hq7]
  change(7<7*g.length∧(if Rf.signM (g.flatMap Rf.bits7)=true then 2^(7*g.length) -2^(7*g.length -8)≤gv g else gv g<2^(7*g.length -8)))↔_
  simp only[Bool.and_eq_true,Bool.or_eq_true,decide_eq_true_eq,Bool.not_eq_true']
  rw[hp,←Bool.not_eq_true (andSign _),hp]
  have hr:(g.getD (g.length -2) 0).toNat%128<128:=Nat.mod_lt _ (by decide)
  generalize(g.getD (g.length -1) 0).toNat=q at *
  generalize(g.getD (g.length -2) 0).toNat%128=r at *
  generalize gv g=V at *
  generalize Rf.signM (g.flatMap Rf.bits7)=sg at *
  generalize g.length=n at *
  rcases(by omega :n=2∨n=3∨n=4∨n=5∨n=6∨n=7∨n=8∨n=9∨n=10)with rfl |rfl |rfl |rfl |rfl |rfl |rfl |rfl |rfl <;>simp only[Nat.reduceMul,Nat.reduceSub,Nat.reducePow]at * <;>cases sg<;>simp at hs⊢ <;>omega
 ·have :g.length=1:=by omega
  constructor
  ·rintro⟨a,-⟩;rw[flat_bits]at a;omega
  ·intro h;simp[this]at h
theorem great32 {g:List UInt8} (h0:0<g.length) (h5:g.length≤5):(32<(g.flatMap Rf.bits7).length∧Rf.sameM (g.flatMap Rf.bits7) (32 -1) (Rf.signM (g.flatMap Rf.bits7))=false)↔signedM g≠IntKind.i32.wrap (signedM g):=by
 have hs:=sign_gv h0
 have hsg:=signed9 h0 (by omega)
 have hv:=gv_lt g
 have hw:IntKind.i32.wrap (signedM g)=if 2147483648≤signedM g%4294967296 then signedM g%4294967296 -4294967296 else signedM g%4294967296:=by simp[IntKind.wrap,IntKind.signed,IntKind.bits]
 rw[hw]
 by_cases h:g.length=5
 ·have hss:=same_sign (g.flatMap Rf.bits7) (k:=32 -1) (by rw[flat_bits,h];decide)
  rw[←Bool.not_eq_true,hss]
  change(32<(g.flatMap Rf.bits7).length∧ ¬(if Rf.signM (g.flatMap Rf.bits7)=true then 2^(g.flatMap Rf.bits7).length -2^(32 -1)≤gv g else gv g<2^(32 -1)))↔_
  rw[flat_bits,hsg,h]
  rw[h]at hs hv
  generalize gv g=V at *
  generalize Rf.signM (g.flatMap Rf.bits7)=sg at *
  simp only[Nat.reduceMul,Nat.reduceSub,Nat.reducePow,Int.reducePow]at *
  cases sg<;>simp at hs⊢ <;>split <;>(try split)<;>omega
 ·rw[flat_bits,hsg]
  generalize gv g=V at *
  generalize g.length=n at *
  rcases(by omega :n=1∨n=2∨n=3∨n=4)with rfl |rfl |rfl |rfl <;>simp only[Nat.reduceMul,Nat.reduceSub,Nat.reducePow,Int.reducePow]at * <;>split <;>(try split)<;>omega
theorem great64 {g:List UInt8} (h0:0<g.length) (h10:g.length≤10) (h8:(g.getD (g.length -1) 0).toNat<128):(64<(g.flatMap Rf.bits7).length∧Rf.sameM (g.flatMap Rf.bits7) (64 -1) (Rf.signM (g.flatMap Rf.bits7))=false)↔beyondM g=true:=by
 have hs:=sign_gv h0
 unfold beyondM
 by_cases h:g.length=10
 ·have hss:=same_sign (g.flatMap Rf.bits7) (k:=64 -1) (by rw[flat_bits,h];decide)
  obtain⟨h1,h2⟩:=gv_one h0
  rw[h]at h1 h2 hs h8
  rw[←Bool.not_eq_true,hss]
  change(64<(g.flatMap Rf.bits7).length∧ ¬(if Rf.signM (g.flatMap Rf.bits7)=true then 2^(g.flatMap Rf.bits7).length -2^(64 -1)≤gv g else gv g<2^(64 -1)))↔_
  have hq0:(g.getD 9 0==0)=decide ((g.getD 9 0).toNat=0):=by
   rw[Bool.eq_iff_iff];simp only[beq_iff_eq,decide_eq_true_eq];rw[←UInt8.toNat_inj];rfl
  have hq7:(g.getD 9 0==127)=decide ((g.getD 9 0).toNat=127):=by
   rw[Bool.eq_iff_iff];simp only[beq_iff_eq,decide_eq_true_eq];rw[←UInt8.toNat_inj];rfl
  rw[flat_bits,h,hq0,hq7]
  simp only[Nat.reduceMul,Nat.reduceSub,Nat.reducePow]at *
  generalize(g.getD 9 0).toNat=q at *
  generalize gv g=V at *
  generalize gv (g.take 9)=U at *
  generalize Rf.signM (g.flatMap Rf.bits7)=sg at *
  cases sg<;>simp at hs⊢ <;>omega
 ·constructor
  ·rintro⟨a,-⟩;rw[flat_bits]at a;omega
  ·intro a
   simp only[Bool.and_eq_true,decide_eq_true_eq]at a
   omega
theorem val32 {g:List UInt8} (h0:0<g.length) (h5:g.length≤5):Rf.valOf (Rf.extM (g.flatMap Rf.bits7) 32 (Rf.signM (g.flatMap Rf.bits7)))=(signedM g%4294967296).toNat:=by
 have hs:=sign_gv h0
 have hsg:=signed9 h0 (by omega)
 have hv:=gv_lt g
 rw[ext_val,hsg]
 change(if 32≤(g.flatMap Rf.bits7).length then gv g%2^32 else gv g+(if Rf.signM (g.flatMap Rf.bits7)=true then 2^32 -2^(g.flatMap Rf.bits7).length else 0))=_
 rw[flat_bits]
 generalize gv g=V at *
 generalize Rf.signM (g.flatMap Rf.bits7)=sg at *
 generalize g.length=n at *
 rcases(by omega :n=1∨n=2∨n=3∨n=4∨n=5)with rfl |rfl |rfl |rfl |rfl <;>simp only[Nat.reduceMul,Nat.reduceSub,Nat.reducePow,Int.reducePow,Nat.reduceLeDiff,if_true,if_false]at * <;>cases sg<;>simp at hs⊢ <;>split <;>omega
theorem val64 {g:List UInt8} (h0:0<g.length) (h10:g.length≤10):Rf.valOf (Rf.extM (g.flatMap Rf.bits7) 64 (Rf.signM (g.flatMap Rf.bits7)))=(signedM g%18446744073709551616).toNat:=by
 have hs:=sign_gv h0
 have hv:=gv_lt g
 rw[ext_val]
 change(if 64≤(g.flatMap Rf.bits7).length then gv g%2^64 else gv g+(if Rf.signM (g.flatMap Rf.bits7)=true then 2^64 -2^(g.flatMap Rf.bits7).length else 0))=_
 rw[flat_bits]
 by_cases h:g.length=10
 ·rw[signed10 h,h]
  unfold wrap64
  generalize gv g=V at *
  simp only[Nat.reduceMul,Nat.reducePow,Nat.reduceLeDiff,if_true]
  omega
 ·have hsg:=signed9 h0 (by omega)
  rw[hsg]
  generalize gv g=V at *
  generalize Rf.signM (g.flatMap Rf.bits7)=sg at *
  generalize g.length=n at *
  rcases(by omega :n=1∨n=2∨n=3∨n=4∨n=5∨n=6∨n=7∨n=8∨n=9)with rfl |rfl |rfl |rfl |rfl |rfl |rfl |rfl |rfl <;>simp only[Nat.reduceMul,Nat.reduceSub,Nat.reducePow,Int.reducePow,Nat.reduceLeDiff,if_true,if_false]at * <;>cases sg<;>simp at hs⊢ <;>split <;>omega
section
variable{E:Rf.PE} {i:Nat} (he:E.en≤E.data.length)
include he
theorem sM_err {size:Nat} (hi:i≤E.en) {e:Int×Int} (hg:groupsM (E.data.take E.en) (if size=64 then 10 else 5) i= .error e):(Rf.sM E size (.ok i)).2= .error e:=by
 unfold Rf.sM
 rw[rf_number he _ hi,hg]
 rfl
theorem sM_ok {size:Nat} (hi:i≤E.en) {g:List UInt8} {j:Nat} (hg:groupsM (E.data.take E.en) (if size=64 then 10 else 5) i= .ok (g,j)):
  Rf.sM E size (.ok i)=if (7<(g.flatMap Rf.bits7).length∧Rf.sameM (g.flatMap Rf.bits7) ((g.flatMap Rf.bits7).length -8) (Rf.signM (g.flatMap Rf.bits7))=true)∨(size<(g.flatMap Rf.bits7).length∧Rf.sameM (g.flatMap Rf.bits7) (size -1) (Rf.signM (g.flatMap Rf.bits7))=false)then (0,Except.error (2,(i:Int)))else (Rf.valOf (Rf.extM (g.flatMap Rf.bits7) size (Rf.signM (g.flatMap Rf.bits7))),Except.ok j):=by
 unfold Rf.sM
 rw[rf_number he _ hi,hg]
 rfl
theorem rf_s32 (hi:i≤E.en):Like (Rf.sM E 32 (.ok i)) (behindM (E.data.take E.en) 2 i):=by
 have hb:behindM (E.data.take E.en) 2 i=match S32M (E.data.take E.en) i with | .error e=> .error e| .ok (n,j)=> .ok ((n%4294967296).toNat,j):=by
  unfold behindM
  rw[if_neg (show ¬(2:Nat)=1 by decide),if_pos (show(2:Nat)=2 from rfl)]
  all_goals(cases S32M (E.data.take E.en) i<;>rfl)
 cases hg:groupsM (E.data.take E.en) 5 i with
 |error e=>
  have hs:S32M (E.data.take E.en) i= .error e:=by unfold S32M;simp only[hg]
  rw[hb,hs]
  exact sM_err he (size:=32) hi hg
 |ok x=>
  obtain⟨g,j⟩:=x
  obtain⟨g0,g5,g8⟩:=groups_last hg
  have hl:=long_iff g0 (by omega) g8
  have hgr:=great32 g0 g5
  have hvl:=val32 g0 g5
  rw[hb,sM_ok he (size:=32) hi hg,hvl]
  have hs:S32M (E.data.take E.en) i=if signedM g≠IntKind.i32.wrap (signedM g)∨paddedSignedM g=true then .error (2,(i:Int))else .ok (signedM g,j):=by unfold S32M;simp only[hg]
  generalize signedM g=S at *
  by_cases hc:S≠IntKind.i32.wrap S∨paddedSignedM g=true
  ·rw[if_pos (hc.elim (fun h=> .inr (hgr.2 h)) (fun h=> .inl (hl.2 h)))]
   rw[if_pos hc]at hs
   rw[hs]
   rfl
  ·rw[if_neg (fun h=>hc (h.elim (fun h=> .inr (hl.1 h)) (fun h=> .inl (hgr.1 h))))]
   rw[if_neg hc]at hs
   rw[hs]
   rfl
theorem rf_s64 (hi:i≤E.en):Like (Rf.sM E 64 (.ok i)) (behindM (E.data.take E.en) 3 i):=by
 have hb:behindM (E.data.take E.en) 3 i=match S64M (E.data.take E.en) i with | .error e=> .error e| .ok (n,j)=> .ok ((n%18446744073709551616).toNat,j):=by
  unfold behindM
  rw[if_neg (show ¬(3:Nat)=1 by decide),if_neg (show ¬(3:Nat)=2 by decide),if_pos (show(3:Nat)=3 from rfl)]
  all_goals(cases S64M (E.data.take E.en) i<;>rfl)
 cases hg:groupsM (E.data.take E.en) 10 i with
 |error e=>
  have hs:S64M (E.data.take E.en) i= .error e:=by unfold S64M;simp only[hg]
  rw[hb,hs]
  exact sM_err he (size:=64) hi hg
 |ok x=>
  obtain⟨g,j⟩:=x
  obtain⟨g0,g5,g8⟩:=groups_last hg
  have hl:=long_iff g0 g5 g8
  have hgr:=great64 g0 g5 g8
  have hvl:=val64 g0 g5
  rw[hb,sM_ok he (size:=64) hi hg,hvl]
  have hs:S64M (E.data.take E.en) i=if beyondM g=true∨paddedSignedM g=true then .error (2,(i:Int))else .ok (signedM g,j):=by unfold S64M;simp only[hg]
  generalize signedM g=S at *
  by_cases hc:beyondM g=true∨paddedSignedM g=true
  ·rw[if_pos (hc.elim (fun h=> .inr (hgr.2 h)) (fun h=> .inl (hl.2 h)))]
   rw[if_pos hc]at hs
   rw[hs]
   rfl
  ·rw[if_neg (fun h=>hc (h.elim (fun h=> .inr (hl.1 h)) (fun h=> .inl (hgr.1 h))))]
   rw[if_neg hc]at hs
   rw[hs]
   rfl
end
end Go.Proofs.YtdeplgkhmebalaaGreatDoor
