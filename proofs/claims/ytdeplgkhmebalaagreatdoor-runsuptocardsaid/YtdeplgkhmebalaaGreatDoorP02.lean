/- The program's reader of bytes: one byte of several, a part; two rows of bytes held against one another. -/
import Derived.Test.YtdeplgkhmebalaaGreatDoorP01
import Derived.Lib.Bytealg
import Derived.Shelf.Bytes.SlSmallAll
import Derived.Deep.RegionLaw
import Derived.Lib.ConvBytes
set_option linter.all false
set_option maxHeartbeats 8000000
set_option maxRecDepth 100000
variable{W X:Go.World}{n k i b a t j q B c d m o p r:Nat}{v u z:Go.Value}{y:Int}{D l:List UInt8}{L I:List Int}{F:List Go.Value}{S P R:Nat->Prop}{T:Go.TypeId}
namespace Go.Proofs.YtdeplgkhmebalaaGreatDoor
open Bool renaming false->Yj,true->Yk
open Except renaming error->Ym,ok->Yn
open Go renaming Calls->Yy,Value->Yx,World->Yw
open Go.Ending renaming returned->Yq
open Go.IntKind renaming i64->O,u64->Yr,u8->Ys
open Go.Obj renaming cells->Yl
open Go.Value renaming bool->Yt,int->V,pointer->Yv,slice->Q,tuple->Yu
open Option renaming none->H,some->M
open Or renaming inl->Yo,inr->Yp
open Proofs.Tryz
variable{f x:Bd}
section
open Go.RowKit
def Kz(s:ByteArray)(c:Int)(w:Yw):fX 176 #[.string s,V Ys c] w (V O (Lib.indexByte s.data.toList c.toNat.toUInt8)):=by
 go_enter func176,ntmps176;go_wp2;rw[run_callFunc_extern func206 Vf Vf Vf (e:=Extern.BytealgIndexByte.indexByte) Vf,Lib.run_indexByteString];simp only[Result.andThen];rw[Oper.upon_value];go_wp2;go_ret;exact⟨U,U⟩
def KB(s:ByteArray)(c:Int)(w:Yw):fX 139 #[.string s,V Ys c] w (V O (Lib.indexByte s.data.toList c.toNat.toUInt8)):=by
 have h:=Kz s c w;generalize Lib.indexByte s.data.toList c.toNat.toUInt8=n at *;go_enter func139,ntmps139;go_wp2_with fail;refine h.cJ ?_;go_wp2;go_ret;exact⟨U,U⟩
def ze(l:List UInt8)(c:UInt8):(if c∈l then (0<=Lib.indexByte l c)else Lib.indexByte l c= -1):=by
 induction l with
 |nil=>rfl
 |cons b l ih=>
  unfold Lib.indexByte;grind
def bP(D:List UInt8)(allowed:List UInt8)(i:Nat):Except (Int×Int) (UInt8×Nat):=
 match fc D i with
 | Ym e=> Ym e
 | Yn (c,j)=>if c∈allowed then Yn (c,j)else Ym (2,i)
def nA(h:kC W k u D i)(s:ByteArray)(b:List UInt8)(l:s.data.toList=b):
  Yy prog 104 #[aj k,.string s] W λr a=>oP W a k u D (λc v=>v= V Ys (UInt8.toNat c)) (V Ys 0) (bP D b i) r/\Kp (one k) W a:=by
 have hM:bP D b i=(match fc D i with | Ym e=> Ym e| Yn (c,j)=>if c∈b then Yn (c,j)else Ym (2,i)):=rfl;generalize bP D b i=R at *;have o:=Dz h;obtain⟨t,-⟩:=ae h.az;generalize fc D i=a at *;have f:=Z o;have p:=Z l;match a,hM,f with
 | Ym e,hM,f=>
  have n:=Z hM;clear hM;go_enter func104,ntmps104;go_wp2_with fail;refine f.mono ?_;rintro r w1⟨⟨w,j,rfl,⟨m,rfl,g,d⟩,h1⟩,k1⟩;have q:=Z h1;clear h1;change Hid _ at d;go_wp2;go_ret2;rw[n.out];exact⟨⟨aj m,j,U,⟨m,U,g,d⟩,q⟩,k1⟩
 | Yn (c,j),hM,f=>
  have d:=KB s (c.toNat:Int);have e:=ze b c;rw[p.out,show((c.toNat:Int).toNat.toUInt8)=c by simp]at d;generalize Lib.indexByte b c=n at *;by_cases g:c∈b
  .simp only[Vi g]at hM e;go_enter func104,ntmps104;go_wp2_with fail;refine f.mono ?_;rintro r w1⟨⟨v,rfl,rfl,h1⟩,k1⟩;go_wp2_with fail;refine(d _).cJ ?_;go_wp2;go_ret2;rw[hM];exact⟨⟨_,U,U,h1⟩,k1⟩
  .simp only[Va g]at hM e;go_enter func104,ntmps104;go_wp2_with fail;refine f.mono ?_;rintro r w1⟨⟨v,rfl,rfl,h1⟩,k1⟩;go_wp2_with fail;refine(d _).cJ ?_;subst e;exact zz
def aq.take{w:Yw}{cap:Nat}(h:aq w (Q (M ⟨a,o,H⟩) l.length cap) l)(n:Nat)(e:n<=l.length):aq w (Q (M ⟨a,o,H⟩) n cap) (l.take n):=by
 rcases h.cases with⟨b,-⟩|⟨f,g,c,b,i,d⟩
 .cases b
 .cases b;have j:(l.take n).length=n:=Vd
  have:=aq.mk (w:=w) (a:=a) (o:=o) (cap:=cap) (l:=l.take n) Y (λk m=>by
   grind)
  grind
def size_setCell(w:Yw)(p:Addr)(v:Yx):(w.setCell p v).heap.size=w.heap.size:=Vc
def Gy(n:Nat)(h:n<9223372036854775808):IntKind.i64.wrap (n:Int)=(n:Int):=by
 grind[IntKind.wrap,IntKind.bits]
def N7(h:kC W k v D i)(n:Nat)(j:i+n<=D.length)(f:0<D.length):
  Yy prog 113 #[aj k,V O n] W λr d=>(∃b a,r= Yq (aj b)/\W.heap.size<=b/\kC d b a (D.take (i+n)) i/\(∀b,a.ownBlock=M b->v.ownBlock=M b)/\kC d k v D (i+n))/\Kp (one k) W d:=by
 obtain⟨w,x⟩:=ae h.az;have y:=h.len;have m:=au h.az;rcases h.bytes.cases with⟨rfl,p⟩|⟨a,o,c,rfl,q,-⟩
 .subst p;simp at f
 .have r:(0:Int)<=(i:Int)+n:=Y
  have s:(i:Int)+n<=c:=Y
  have z:IntKind.i64.wrap ((i:Int)+n)=(i:Int)+n:=by rw[show(i:Int)+n=((i+n:Nat):Int)by simp];exact Gy _ Y
  go_enter func113,ntmps113;go_wp2_with fail;go_region_held3 (λd=>d.cell? ⟨k,0,H⟩=M (Q (M ⟨a,o,H⟩) D.length c)/\d.cell? ⟨k,1,H⟩=M (V O i)) (go_keep) (fail);go_wp2;go_ret;have t:a<W.heap.size:=by
   rcases h.bytes.cases with⟨d,-⟩|⟨A,B,u,d,-,e⟩
   .cases d
   .cases d;have l:=e 0 f;rcases VE a W.heap.size with g|g
    .exact g
    .rw[World.cell?,Array.getElem?_eq_none g]at l;cases l
  have l:(D.take (i+n)).length=i+n:=Vd
  have g:Kp (one k) W ((W.setCell ⟨k,1,H⟩ (V O ((i:Int)+n))).alloc (Dx (Q (M ⟨a,o,H⟩) (i+n) c) i)).drew:=(((Kp.refl (one k) W).bK 1 (V O ((i:Int)+n))).alloc _).drew;refine⟨⟨W.heap.size,Q (M ⟨a,o,H⟩) (i+n) c,U,cQ,⟨?_,?_,?_,Y,Y⟩,λb d=>d,h.step g ?_ j⟩,g⟩
  .have :=ai (W.setCell ⟨k,1,H⟩ (V O ((i:Int)+n))) (Dx (Q (M ⟨a,o,H⟩) (i+n) c) i);rw[size_setCell]at this;exact this
  .exact(h.bytes.kp g (λb d e=>h.JQ b d e)).take (i+n) j
  .intro b d;cases d;exact Nat.ne_of_lt t
  .exact ah (heap_setCell h.az _)
def fq{w:Yw}{l1 l2:List UInt8}(g:aq w u l1)(j:aq w z l2):
  fX 287 #[u,z] w (Yt (l1==l2)):=by
 have b:∀{v:Yx} {l:List UInt8},aq w v l->(convert 25 9 v).run prog w=.ok (.string ⟨l.toArray⟩) w:=by
  intro v l h;have e:∀l:List UInt8,strOfNums (l.map λc=>(c.toNat:Int))=⟨l.toArray⟩:=by
   intro l;simp[strOfNums];exact List.map_id'' (λc=>Vc) l
  rcases h.cases with⟨rfl,rfl⟩|⟨a,o,d,rfl,k,f⟩
  .exact run_convert_bytes_zero w 25 5 underlying25 underlying5 H 0 9 underlying9
  .rw[run_convert_bytes_arg w 25 5 underlying25 underlying5 a o l.length d (l.map λc=>(c.toNat:Int)) Vc (λi hi=>by rw[f i hi];simp[List.getD,Vj hi]) 9 underlying9,e]
 have c:=b g;have d:=b j;have q:((⟨l1.toArray⟩:ByteArray)==⟨l2.toArray⟩)=(l1==l2):=by
  show(l1.toArray==l2.toArray)=_
  simp
 go_enter func287,ntmps287;go_wp2;go_ret;exact⟨U,U⟩
def lO:Bk:=⟨0,[],0,0,[]⟩
def Bd.bk(s:Bd)(k:Nat):Bk:=s.af.getD k lO
def Bd.top(s:Bd):Bk:=s.bk (s.af.length-1)
def cX(s:Bd):Option (UInt8×Bd):=
 if s.stack.length<=s.top.aH then H else M (s.stack.getD (s.stack.length-1) 0,{s with stack:=s.stack.take (s.stack.length-1)})
def cO(s:Bd)(t:UInt8):Option Bd:=
 match cX s with
 |none=>H
 |some (u,s')=>if u=t then M s' else H
def fh(ts:List UInt8):Nat->Bd->Option Bd
 |0,s=>M s
 |k+1,s=>match cO s (ts.getD k 0)with
  |none=>H
  |some s'=>fh ts k s'
def bQ(s:Bd)(ts:List UInt8):Option Bd:=fh ts ts.length s
def fj(s:Bd)(ts:List UInt8):Bd:={s with stack:=s.stack++ts}
def bo(s:Bd)(x:dQ):Bd:={s with ao:=s.ao++[x]}
def aO(b:Bk):List UInt8:=if b.bq=2 then []else b.aL
def dg(s:Bd)(k:Nat):Option Bd:=(bQ s (aO (s.bk k))).map λs'=>fj s' (aO (s.bk k))
def bu(s:Bd)(op:UInt8)(k:Nat):Bd:=
 if (s.bk k).bq=2 then bo s ⟨op,0,(s.bk k).start,(s.bk k).aH,(aO (s.bk k)).length⟩
 else bo {s with af:=s.af.set k {s.bk k with waits:=(s.bk k).waits++[s.ao.length]}} ⟨op,0,0,(s.bk k).aH,(aO (s.bk k)).length⟩
def dZ(s:Bd)(n:Nat):Bd:={s with ao:=s.ao.set n {s.ao.getD n ⟨0,0,0,0,0⟩with goal:=s.ao.length}}
def nB(s:Bd)(k:Nat):Bool:=s.aR||s.stack.drop (s.bk k).aH==(s.bk k).aL
abbrev sU:=Except (Int×Int) Bd
def cZ(s:Bd):sU:= Ym (3,s.pos)
def bf(c:nt)(s:Bd):Except (Int×Int) (Nat×Bd):=
 match bp c.D s.af.length s.i with
 | Ym e=> Ym e
 | Yn (n,j)=> Yn (s.af.length-1-n,{s with i:=j})
def I2(s:Bd):sU:= Yn {bo s ⟨0,0,0,0,0⟩with aR:=Yk}
def lQ(c:nt)(op:UInt8)(s:Bd):sU:=
 match bP c.D [127,126,64] s.i with
 | Ym e=> Ym e
 | Yn (t,j)=>
  match (if op=4 then cO {s with i:=j} 127 else M {s with i:=j})with
  |none=>cZ s
  |some s1=>
   if s1.af.length-1=16 then cZ s
   else Yn {bo s1 ⟨op,0,0,if op=4 then s1.stack.length else 0,0⟩with af:=s1.af++[⟨if op=3 then 2 else if op=4 then 3 else 1,if t=64 then []else [t],s1.stack.length,s1.ao.length+1,[]⟩]}
def iC(s:Bd):sU:=
 if s.top.bq≠3\/nB s (s.af.length-1)=Yj then cZ s
 else
  let s1:=dZ (bu s 5 (s.af.length-1)) (s.top.start-1)
  .ok {s1 with af:=s1.af.set (s1.af.length-1) {s1.top with bq:=4},stack:=s1.stack.take s1.top.aH,aR:=Yj}
def cC(l:List Nat)(s:Bd):Bd:=l.foldl dZ s
def kQ(s:Bd):sU:=
 if nB s (s.af.length-1)=Yj\/(s.top.bq=3/\s.top.aL≠[])then cZ s
 else
  let s1:=if s.top.bq=3 then dZ s (s.top.start-1)else s
  let s2:=cC s.top.waits s1
  let s3:=if s.top.bq=0 then bo s2 ⟨11,0,0,0,0⟩else s2
  .ok {s3 with stack:=s3.stack.take s.top.aH++s.top.aL,af:=s3.af.take (s3.af.length-1),aR:=Yj}
def iW(c:nt)(op:UInt8)(s:Bd):sU:=
 match bf c s with
 | Ym e=> Ym e
 | Yn (k,s1)=>
  match (if op=13 then cO s1 127 else M s1)with
  |none=>cZ s
  |some s2=>
   match dg s2 k with
   |none=>cZ s
   |some s3=> Yn {bu s3 op k with aR:=op==12}
def mP(s:Bd):sU:=
 match dg s 0 with
 |none=>cZ s
 |some s1=> Yn {bu s1 12 0 with aR:=Yk}
def dN(c:nt):Nat->Bd->Except (Int×Int) (List Nat×Bd)
 |0,s=> Yn ([],s)
 |n+1,s=>match bf c s with
  | Ym e=> Ym e
  | Yn (k,s1)=>match dN c n s1 with
   | Ym e=> Ym e
   | Yn (l,s2)=> Yn (k::l,s2)
def jN(s:Bd)(l:List Nat):Bool:=l.all λk=>aO (s.bk k)==aO (s.bk (l.getD 0 0))
def cx(l:List Nat)(s:Bd):Bd:=l.foldl (λs k=>bu s 12 k) s
def er(c:nt)(s:Bd):sU:=
 match bp c.D 17 s.i with
 | Ym e=> Ym e
 | Yn (n,j)=>
  match dN c (n+1) {s with i:=j}with
  | Ym e=> Ym e
  | Yn (l,s1)=>
   match cO s1 127 with
   |none=>cZ s
   |some s2=>
    match dg s2 (l.getD n 0)with
    |none=>cZ s
    |some s3=>if jN s3 l then Yn {cx l (bo s3 ⟨14,n,0,0,0⟩)with aR:=Yk}else cZ s
def py(c:nt)(s:Bd):sU:=
 match bp c.D c.funcs.length s.i with
 | Ym e=> Ym e
 | Yn (n,j)=>
  match bQ {s with i:=j} (c.funcs.getD n ([],[])).1 with
  |none=>cZ s
  |some s1=> Yn (fj (bo s1 ⟨16,n,0,0,0⟩) (c.funcs.getD n ([],[])).2)
def pz(s:Bd):sU:=
 match cX s with
 |none=>cZ s
 |some (_,s1)=> Yn (bo s1 ⟨26,0,0,0,0⟩)
def fI(s:Bd):sU:=
 match cO s 127 with
 |none=>cZ s
 |some s1=>
  match cX s1 with
  |none=>cZ s
  |some (t,s2)=>
   match cO s2 t with
   |none=>cZ s
   |some s3=> Yn (fj (bo s3 ⟨27,0,0,0,0⟩) [t])
def eK(c:nt)(op:UInt8)(s:Bd):sU:=
 match bp c.D c.aZ.length s.i with
 | Ym e=> Ym e
 | Yn (n,j)=>
  match (if op=32 then M {s with i:=j}else cO {s with i:=j} (c.aZ.getD n 0))with
  |none=>cZ s
  |some s1=> Yn (if op=33 then bo s1 ⟨op,n,0,0,0⟩else fj (bo s1 ⟨op,n,0,0,0⟩) [c.aZ.getD n 0])
def dn(c:nt)(op:UInt8)(s:Bd):sU:=
 match bp c.D c.gl.length s.i with
 | Ym e=> Ym e
 | Yn (n,j)=>
  if op=36 then
   if (c.gl.getD n (0,Yj)).2 then
    match cO {s with i:=j} (c.gl.getD n (0,Yj)).1 with
    |none=>cZ s
    |some s1=> Yn (bo s1 ⟨op,n,0,0,0⟩)
   else cZ s
  else Yn (fj (bo {s with i:=j} ⟨op,n,0,0,0⟩) [(c.gl.getD n (0,Yj)).1])
structure mQ where
 fr:UInt8
 upto:UInt8
 bM:Nat
 takes:List UInt8
 gives:List UInt8
def gM:List mQ:=[⟨0x00,0x00,4,[],[]⟩,⟨0x01,0x01,0,[],[]⟩,⟨0x02,0x05,4,[],[]⟩,⟨0x0b,0x10,4,[],[]⟩,⟨0x1a,0x1b,4,[],[]⟩,⟨0x20,0x24,4,[],[]⟩,
 ⟨0x28,0x28,1,[127],[127]⟩,⟨0x29,0x29,1,[127],[126]⟩,⟨0x2c,0x2d,1,[127],[127]⟩,⟨0x36,0x36,1,[127,127],[]⟩,⟨0x37,0x37,1,[127,126],[]⟩,⟨0x3a,0x3a,1,[127,127],[]⟩,
 ⟨0x3f,0x3f,0,[],[127]⟩,⟨0x40,0x40,0,[127],[127]⟩,⟨0x41,0x41,2,[],[127]⟩,⟨0x42,0x42,3,[],[126]⟩,⟨0x45,0x45,0,[127],[127]⟩,⟨0x46,0x4f,0,[127,127],[127]⟩,
 ⟨0x50,0x50,0,[126],[127]⟩,⟨0x51,0x5a,0,[126,126],[127]⟩,⟨0x67,0x69,0,[127],[127]⟩,⟨0x6a,0x78,0,[127,127],[127]⟩,⟨0x79,0x7b,0,[126],[126]⟩,⟨0x7c,0x8a,0,[126,126],[126]⟩,
 ⟨0xa7,0xa7,0,[126],[127]⟩,⟨0xac,0xad,0,[127],[126]⟩,⟨0xe0,0xe0,0,[126],[126]⟩,⟨0xe1,0xe1,0,[126,126],[]⟩]
def eu(op:UInt8):Option mQ:=gM.find? λr=>decide (r.fr<=op)&&decide (op<=r.upto)
def eh(D:List UInt8)(b:Nat)(i:Nat):Except (Int×Int) (Nat×Nat):=
 if b=1 then UM D i
 else if b=2 then match qY D i with
  | Ym e=> Ym e
  | Yn (n,j)=> Yn ((n%4294967296).toNat,j)
 else if b=3 then match qZ D i with
  | Ym e=> Ym e
  | Yn (n,j)=> Yn ((n%18446744073709551616).toNat,j)
 else Yn (0,i)
def iZ(c:nt)(op:UInt8)(r:mQ)(s:Bd):sU:=
 match eh c.D r.bM s.i with
 | Ym e=> Ym e
 | Yn (n,j)=>
  match bQ {s with i:=j} r.takes with
  |none=>cZ s
  |some s1=> Yn (fj (bo s1 ⟨op,n,0,0,0⟩) r.gives)
def gV(c:nt)(op:UInt8)(s:Bd):sU:=
 if op=0 then I2 s
 else if op=2\/op=3\/op=4 then lQ c op s
 else if op=5 then iC s
 else if op=11 then kQ s
 else if op=12\/op=13 then iW c op s
 else if op=14 then er c s
 else if op=15 then mP s
 else if op=16 then py c s
 else if op=26 then pz s
 else if op=27 then fI s
 else if op=35\/op=36 then dn c op s
 else eK c op s
def dK(c:nt)(s:Bd):sU:=
 match fc c.D s.i with
 | Ym e=> Ym e
 | Yn (op,j)=>
  match eu op with
  |none=> Ym (2,s.i)
  |some r=>
   if s.aR=Yk/\op≠5/\op≠11 then Ym (3,s.i)
   else if r.bM=4 then gV c op {s with pos:=s.i,i:=j}
   else iZ c op r {s with pos:=s.i,i:=j}
def gw(c:nt):Nat->Bd->sU
 |0,s=> Yn s
 |n+1,s=>
  if s.af=[]then (if s.i<c.D.length then Ym (2,s.i)else Yn s)
  else match dK c s with
   | Ym e=> Ym e
   | Yn s1=>gw c n s1
abbrev Rd(α:Type):=Except (Int×Int) (α×Nat)
def cD{α:Type}(one:Nat->Rd α):Nat->Nat->Rd (List α)
 |0,i=> Yn ([],i)
 |n+1,i=>match one i with
  | Ym e=> Ym e
  | Yn (x,j)=>match cD one n j with
   | Ym e=> Ym e
   | Yn (l,k)=> Yn (x::l,k)
def gN(D:List UInt8)(most:Nat)(i:Nat):Rd (List UInt8):=
 match bp D (most+1) i with
 | Ym e=> Ym e
 | Yn (n,j)=>cD (bP D [127,126]) n j
def nC(D:List UInt8)(i:Nat):Rd Ty:=
 match gN D 8 i with
 | Ym e=> Ym e
 | Yn (p,j)=>match gN D 1 j with
  | Ym e=> Ym e
  | Yn (r,k)=> Yn ((p,r),k)
def dF(D:List UInt8)(i:Nat):Rd (List Ty):=
 match bp D 17 i with
 | Ym e=> Ym e
 | Yn (n,j)=>cD (nC D) n j
def pA(D:List UInt8)(ts:List Ty)(i:Nat):Rd (List Ty):=
 match bp D 17 i with
 | Ym e=> Ym e
 | Yn (n,j)=>cD (λi=>match bp D ts.length i with
   | Ym e=> Ym e
   | Yn (k,j)=> Yn (ts.getD k ([],[]),j)) n j
def kK(D:List UInt8)(t:UInt8)(i:Nat):Rd Nat:=eh D (if t=127 then 2 else 3) i
def jE(D:List UInt8)(i:Nat):Rd ((UInt8×Bool)×Nat):=
 match bP D [127,126] i with
 | Ym e=> Ym e
 | Yn (t,j)=>match bP D [0,1] j with
  | Ym e=> Ym e
  | Yn (f,k)=>match kK D t k with
   | Ym e=> Ym e
   | Yn (v,m)=> Yn (((t,f==1),v),m)
def lR(D:List UInt8)(i:Nat):Rd (List ((UInt8×Bool)×Nat)):=
 match bp D 9 i with
 | Ym e=> Ym e
 | Yn (n,j)=>cD (jE D) n j
def pB(D:List UInt8)(i:Nat):Rd Unit:=
 match bP D [83] i with
 | Ym e=> Ym e
 | Yn (_,j)=>match bP D [84] j with
  | Ym e=> Ym e
  | Yn (_,k)=>match bP D [75] k with
   | Ym e=> Ym e
   | Yn (_,l)=>match bP D [1] l with
    | Ym e=> Ym e
    | Yn (_,m)=> Yn ((),m)
structure vM where
 typ:Ty
 aZ:Nat
 entry:Nat
structure dH where
 funcs:List vM
 globals:List Nat
 bI:Nat
 ao:List dQ
def nD(D:List UInt8)(ts:List Ty)(gl:List (UInt8×Bool))(typ:Ty)(ao:List dQ)(i:Nat):Rd (vM×List dQ):=
 match UM D i with
 | Ym e=> Ym e
 | Yn (size,j)=>
  if D.length-j<size then Ym (2,i)
  else
   let P:=D.take (j+size)
   match gN P (32-typ.1.length) j with
   | Ym e=> Ym e
   | Yn (more,k)=>
    match gw ⟨P,ts,gl,typ.1++more⟩ 2001 ⟨k,ao,[],[⟨0,typ.2,0,0,[]⟩],0,Yj⟩with
    | Ym e=> Ym e
    | Yn s=> Yn ((⟨typ,typ.1.length+more.length,ao.length⟩,s.ao),j+size)
def dq(D:List UInt8)(ts:List Ty)(gl:List (UInt8×Bool)):List Ty->List dQ->Nat->Rd (List vM×List dQ)
 |[],ao,i=> Yn (([],ao),i)
 |t::rest,ao,i=>match nD D ts gl t ao i with
  | Ym e=> Ym e
  | Yn ((f,aa8),j)=>match dq D ts gl rest aa8 j with
   | Ym e=> Ym e
   | Yn ((fs,aa9),k)=> Yn ((f::fs,aa9),k)
def iE(D:List UInt8):Except (Int×Int) dH:=
 if 2000<D.length then Ym (1,0)
 else match pB D 0 with
 | Ym e=> Ym e
 | Yn (_,i1)=>match dF D i1 with
  | Ym e=> Ym e
  | Yn (ts,i2)=>match pA D ts i2 with
   | Ym e=> Ym e
   | Yn (fs,i3)=>match lR D i3 with
    | Ym e=> Ym e
    | Yn (gs,i4)=>match bp D 5 i4 with
     | Ym e=> Ym e
     | Yn (bI,i5)=>match dq D fs (gs.map (·.1)) fs [] i5 with
      | Ym e=> Ym e
      | Yn ((eb,ao),i6)=>if i6<D.length then Ym (2,i6)else Yn ⟨eb,gs.map (·.2),bI,ao⟩
section
variable{E:ez}{g:Nat}{w:World}{s:Bd}
def xJ(h:cU E g w s)(a:s.ao.length<=1000000):df 278 #[aj E.bb] w (V O s.ao.length) λb=>Kp no w b:=by
 obtain⟨c,d,e,f,i,h⟩:=h;obtain⟨j,-⟩:=ae h.body;obtain⟨k,-⟩:=ae h.mod;obtain⟨l,b,rfl⟩:=aA h.ao;clear h;go_enter func278,ntmps278;go_wp2;go_ret;exact⟨U,iR⟩
def ia(h:cU E g w s):Yy prog 211 #[aj E.bb] w λr a=>(∃b,r= Yq b/\gJ w a b (3,s.pos))/\Kp no w a:=by
 obtain⟨b,c,d,e,f,h⟩:=h;obtain⟨a,-⟩:=ae h.body;clear h;go_enter func211,ntmps211;go_wp2;go_ret;exact⟨⟨_,U,⟨w.heap.size,U,cQ,ai _ _⟩⟩,oO⟩
def jL(h:cU E g w s)(a:s.af≠[])(b:s.af.length<=1000):df 279 #[aj E.bb] w (Yv (M ⟨g,(s.af.length-1)*5,H⟩)) λc=>Kp no w c:=by
 obtain⟨d,e,f,i,j,h⟩:=h;obtain⟨c,-⟩:=ae h.body;have k:0<s.af.length:=Vs.2 a;clear h;go_enter func279,ntmps279;go_wp2;go_quiet(fail);go_wp2;go_ret;exact⟨U,(Kp.refl _ _).drewN _⟩
def NC{a:Nat->Nat}{o:List uz}(h:bT E g w s a v u k o)(x:dQ){w1:Yw}(t:n=s.ao.length+1)(f:F=s.ao.flatMap dQ.cells++x.cells)(i:Kp no w W)
  (j:w1.ownsRow E.B 214 5 z n F)(c:W.grownBy w1 u.ownBlock)(y:z.ownBlock=u.ownBlock\/z.ownBlock=M W.heap.size):
  cU E g (w1.setCell ⟨E.mb,3,H⟩ z) {s with ao:=s.ao++[x]}/\Kp (fy E.ro) w (w1.setCell ⟨E.mb,3,H⟩ z):=by
 subst t f;have d:=h.pn 6;have A:=au h.mod;have B:Kp (λb=>(λr=>r=2\/r=6) (dC a w.heap.size 6 b)) w w1:=(i.any).bS c (λb p=> Yo (Yp (d.r6 b p)));have q:Kp (λb=>(λr=>r=2\/r=6) (dC a w.heap.size 6 b)) w (w1.setCell ⟨E.mb,3,H⟩ z):=B.bE (Yo d.r2) 3 z;have C:∀b,z.ownBlock=M b->dC a w.heap.size 6 b=6:=by
  grind[ef,bT.r6,Kp.size]
 have m:w1.heap[E.mb]?=M (rJ E u):=(c.block E.mb (Vm A i.size) (λe=>by grind[bT.r6,bT.r2])).trans (i.az h.mod id);refine⟨⟨_,v,z,k,o,d.IX (l:=s.ao++[x]) q (heap_setCell m z) ?_ C⟩,d.fy (X:=λr=>r=2\/r=6) q Vb⟩;have r:(w1.setCell ⟨E.mb,3,H⟩ z).ownsRow E.B 214 5 z (s.ao.length+1) (s.ao.flatMap dQ.cells++x.cells):=
  ((Kp.refl (one E.mb) w1).bK 3 z).own j (λb p (e:b=E.mb)=>by grind[bT.r2])
 grind
def Gl:(Tryz.prog.info? 214).map (λi=>(i.zero,i.size,i.bytes))=M (M (.agg #[V Ys 0,V Yr 0,V O 0,V O 0,V O 0]),5,40):=Vf
def eT(h:cU E g w s)(x:dQ)(N:s.ao.length<=1000000):df 268 #[aj E.bb,.agg x.cells.toArray] w (Yu #[]) λa=>cU E g a {s with ao:=s.ao++[x]}/\Kp (fy E.ro) w a:=by
 obtain⟨u,P,d,R,S,h⟩:=h;obtain⟨v,k,l,m,n⟩:=info_parts Gl;obtain⟨T,-⟩:=ae h.body;obtain⟨W,y⟩:=ae h.mod;have z:=au h.body;have A:=au h.mod;have hB:=h.env.base;have B:=λ(X:Obj)=>(ae (ah (o:=X) h.mod)).2 3
 have p:=λ(X a:Obj)=>(ae (ah (o:=a) (ah (o:=X) h.mod))).2 3
 have C:M E.bb≠d.ownBlock:=λe=>by have:=h.r6 _ e.symm;rw[h.r3]at this;cases this
 have t:M E.mb≠d.ownBlock:=λe=>by have:=h.r6 _ e.symm;rw[h.r2]at this;cases this
 have n3:M w.heap.size≠d.ownBlock:=λe=>cj (bR h.ao e.symm)
 change Hid _ at h;obtain⟨e,b,f,i,j⟩:=x;simp only[dQ.cells];go_enter func268,ntmps268;go_wp2_with fail;have D:=ai w (Yl #[V Ys e.toNat,V Yr b,V O f,V O i,V O j] 214);have F:=(ae D).1;have q:=λ(X a:Obj)=>(ae (ah (o:=a) (ah (o:=X) h.mod))).1 3
 go_region_law ((refine bJ _ Vg _ _ _ Vg E.B 214 v _ 5 40 underlying119 k l m n U Y d s.ao.length (s.ao.flatMap dQ.cells) Vg ((h.ao.alloc _).alloc _) (Q (M ⟨w.heap.size+1,0,H⟩) 1 1) 1 [V Ys e.toNat,V Yr b,V O f,V O i,V O j] Vg (aw.lq Vc #[V Ys e.toNat,V Yr b,V O f,V O i,V O j] _ 1 5 U) (by simp[Value.oneCell']) (by simp only[maxLen];omega) Y Vd ?_;intro X w1 c a r;obtain⟨G,I,rfl⟩:=aA c;have J:=(a.cell_far ⟨E.mb,3,H⟩ Vd t).trans (q _ _);have K:=(a.cell_far ⟨E.bb,1,H⟩ Vd C);have L:=(a.frozen_far ⟨E.mb,3,H⟩ Vd t).trans (p _ _)))
 all_goals
  go_end0
  exact⟨U,NC h ⟨e,b,f,i,j⟩ rfl U ((((Kp.refl no w).alloc _).alloc _).drewN 1) c a r⟩
end
def lj:(Tryz.prog.info? 5).map (λi=>(i.zero,i.size,i.bytes))=M (M (V Ys 0),1,1):=Vf
section
variable{E:ez}{g:Nat}{w:World}{s:Bd}
def RK{a:Nat->Nat}{p:List uz}(h:bT E g w s a v u k p)(f:List UInt8)(t:n=s.stack.length+f.length)(i:F=(s.stack.map λc=> V Ys c.toNat)++(f.map λc=> V Ys c.toNat))
  (j:W.ownsRow E.B 5 1 z n F)(d:w.grownBy W v.ownBlock)(l:z.ownBlock=v.ownBlock\/z.ownBlock=M w.heap.size):
  cU E g (W.setCell ⟨E.bb,4,H⟩ z) (fj s f)/\Kp (fy E.ro) w (W.setCell ⟨E.bb,4,H⟩ z):=by
 subst t i;have c:=h.pn 4;have x:=au h.body;have y:Kp (λb=>(λr=>r=3\/r=4) _) w W:=(Kp.refl _ w).bS d (λb m=> Yo (Yp (c.r4 b m)));have q:=y.bE (Yo c.r3) 4 z;have A:∀b,z.ownBlock=M b->dC a w.heap.size 4 b=4:=by
  intro b m;rcases l with e|e
  .grind[bT.r4]
  simp_all[ef]
 have o:W.heap[E.bb]?=M _:=(d.block E.bb x (λe=>by grind[bT.r4,bT.r3])).trans h.body;refine⟨⟨_,z,u,k,p,c.sJ q (heap_setCell o z) ?_ A⟩,c.fy (X:=λr=>r=3\/r=4) q Vb⟩;have r:(W.setCell _ z).ownsRow E.B 5 1 z _ _:=
  ((Kp.refl _ W).bK 4 z).own j (λb m (e:b=E.bb)=>by grind[bT.r3])
 grind
def og(h:cU E g w s)(n:aq w v D)(F:s.stack.length<=1000000)(p:D.length<=1000000):
  df 269 #[aj E.bb,v] w (Yu #[]) λa=>cU E g a (fj s D)/\Kp (fy E.ro) w a:=by
 obtain⟨q,G,I,J,K,h⟩:=h;obtain⟨r,d,f,i,j⟩:=info_parts lj;obtain⟨t,k⟩:=ae h.body;have u:=h.env.base;have b:=au h.body;obtain⟨x,l,rfl⟩:=aA h.stack;obtain⟨y,z,rfl,-⟩:=n.aJ;have o:M E.bb≠(Value.slice x s.stack.length l).ownBlock:=λe=>by have:=h.r4 _ e.symm;rw[h.r3]at this;cases this
 go_enter func269,ntmps269;go_wp2_with(at_builtin;refine bj _ U _ _ 25 U E.B 5 r _ 1 1 underlying25 d f i j U Vb _ _ _ U h.stack _ D.length _ U n (bV _) ?c3 ?c4 u ?_);case c3=>unfold maxLen;omega
 case c4=>omega
 intro L N c a e;obtain⟨A,B,rfl⟩:=aA c;have m:=a.cell_far ⟨E.bb,4,H⟩ b o;have C:=(a.frozen_far _ b o).trans (k 4);rw[t]at m;go_wp2;go_end0;exact⟨U,RK h D U U c a e⟩
def Oo{d:Nat->Nat}{m:List uz}(h:bT E g w s d v u n m){c:Option Addr}(j:v= Q c s.stack.length k)(z:0<s.stack.length)(i:Kp no w W):
  cU E g (W.setCell ⟨E.bb,4,H⟩ (Q c (s.stack.length-1) k)) {s with stack:=s.stack.take (s.stack.length-1)}/\Kp (one E.bb) w (W.setCell ⟨E.bb,4,H⟩ (Q c (s.stack.length-1) k)):=by
 subst j;have o:Kp (λb=>(λr=>r=3\/r=4) _) w (W.setCell _ (Q c (s.stack.length-1) k)):=Kp.bE i.any (Yo h.r3) 4 _;have l:=i.az h.body id;refine⟨⟨d,_,u,n,m,h.sJ o (heap_setCell l _) ?_ (λb f=>h.r4 b (by cases c with |none=>cases f|some a=>exact f))⟩,Kp.bK i.any 4 _⟩;have p:(W.setCell _ (Q c (s.stack.length-1) k)).ownsRow E.B 5 1 _ s.stack.length _:=
  ((Kp.refl _ W).bK 4 _).own (i.own h.stack bW) (λb f (e:b=E.bb)=>by grind[bT.r4,bT.r3])
 obtain⟨A,⟨B,C⟩|⟨q,r,a,t,f,x,D,y,b,F⟩⟩:=p
 .omega
 .cases t;have e:(s.stack.take (s.stack.length-1)).length=s.stack.length-1:=Vc
  refine⟨Vc,Yp ⟨q,k,a,by rw[e],f,x,Y,y,b,?_⟩⟩;grind[List.map_take]
theorem bT.bk{c:Nat->Nat}{a:List uz}(h:bT E g w s c u z n a)(l:k<s.af.length):
  ∃b d,a[k]?=M (s.bk k,b,d)/\w.cell? ⟨g,k*5,H⟩=M (V O (s.bk k).bq)/\w.cell? ⟨g,k*5+1,H⟩=M b/\w.cell? ⟨g,k*5+2,H⟩=M (V O (s.bk k).aH)/\
   w.cell? ⟨g,k*5+3,H⟩=M (V O (s.bk k).start)/\w.cell? ⟨g,k*5+4,H⟩=M d:=by
 have p:s.af.length=a.length:=by rw[h.eq,VH]
 have d:k<a.length:=Y
 have f:=Vj d;have e:s.bk k=a[k].1:=by
  unfold Bd.bk;rw[h.eq,List.getD,VN,f];rfl
 have b:∀j,j<5->w.cell? ⟨g,k*5+j,H⟩=(fH a[k])[j]? :=by
  intro j i;rw[h.af.cellAt _ Y,kI DU a k j i,f];rfl
 refine⟨a[k].2.1,a[k].2.2,by rw[f,e],?_,?_,?_,?_,?_⟩
 .rw[e];exact b 0 Vb
 .exact b 1 Vb
 .rw[e];exact b 2 Vb
 .rw[e];exact b 3 Vb
 .exact b 4 Vb
def bT.KG{c:Nat->Nat}{d:List uz}(h:bT E g w s c v u n d)(l:k<s.stack.length):
  ∃a b,v= Q (M ⟨a,0,H⟩) s.stack.length b/\s.stack.length<=b/\w.cell? ⟨a,k,H⟩=M (V Ys (s.stack.getD k 0).toNat):=by
 obtain⟨m,⟨o,p⟩|⟨e,a,f,b,q,r,i,t,j,x⟩⟩:=h.stack
 .omega
 .refine⟨e,a,b,i,?_⟩;have:=h.stack;rw[b]at this;rw[this.cellAt k Y];grind
def GA(h:cU E g w s)(j:s.af≠[])(l:s.af.length<=17)(B:s.stack.length<=1000000)(C:s.top.aH<s.stack.length):
  df 286 #[aj E.bb] w (Yu #[V Ys (s.stack.getD (s.stack.length-1) 0).toNat,Yt Yk]) λa=>cU E g a {s with stack:=s.stack.take (s.stack.length-1)}/\Kp (one E.bb) w a:=by
 have e:=jL h j Y;obtain⟨n,D,F,G,I,h⟩:=h;have J:=Vs.2 j;obtain⟨K,L,-,-,-,b,-,-⟩:=h.bk (k:=s.af.length-1) Y;change w.cell? _=M (V O s.top.aH)at b;obtain⟨a,p,c,r,f⟩:=h.KG (k:=s.stack.length-1) Y;have i:=λW (d:Kp no w W)=>Oo h c Y d
 generalize s.top.aH=N at *;generalize s.stack.getD (s.stack.length-1) 0=u at *;subst c;obtain⟨R,S⟩:=ae h.body;have HB:=Z h.body;go_enter func286,ntmps286;go_wp2_with fail;refine e.bw ?_;rintro t d;have x:=d.aY b;have y:=d.aY f;obtain⟨z,A⟩:=ae (d.az HB id);go_wp2;go_ret2;exact⟨U,i t d⟩
def GB(h:cU E g w s)(c:s.af≠[])(e:s.af.length<=17)(l:s.stack.length<=1000000)(n:s.stack.length<=s.top.aH):
  df 286 #[aj E.bb] w (Yu #[V Ys 0,Yt Yj]) λa=>Kp no w a:=by
 have b:=jL h c Y;obtain⟨f,p,r,t,u,h⟩:=h;have x:=Vs.2 c;obtain⟨y,z,-,-,-,a,-,-⟩:=h.bk (k:=s.af.length-1) Y;change w.cell? _=M (V O s.top.aH)at a;generalize s.top.aH=A at *;obtain⟨B,C⟩:=ae h.body;obtain⟨D,i,rfl⟩:=aA h.stack;go_enter func286,ntmps286;go_wp2_with fail;refine b.bw ?_;rintro F d;have j:=d.aY a;go_wp2;go_ret2;exact⟨U,d⟩
def RL(E:ez)(g:Nat)(w':Yw)(s:Bd)(m:Option (UInt8×Bd))(r:Ending):Prop:=
 match m with
 |some (u,s')=>r= Yq (Yu #[V Ys u.toNat,Yt Yk])/\cU E g w' s'
 |none=>r= Yq (Yu #[V Ys 0,Yt Yj])/\cU E g w' s
def cU.dV(h:cU E g w s)(k:Kp (one E.bb) w W):Kp (fy E.ro) w W:=by
 obtain⟨a,c,d,f,i,h⟩:=h;exact k.mono (λb _ (e:b=E.bb) j=>by grind[bT.ro,bT.r3])
def pD(h:cU E g w s)(e:s.af≠[])(a:s.af.length<=17)(f:s.stack.length<=1000000):
  Yy prog 286 #[aj E.bb] w λr b=>RL E g b s (cX s) r/\Kp (one E.bb) w b:=by
 unfold cX;by_cases c:s.stack.length<=s.top.aH
 .rw[Vi c];refine(GB h e a f c).bw ?_;rintro b k;obtain⟨d,i,j,l,m,h⟩:=h;exact⟨⟨U,d,i,j,l,m,h.quiet k⟩,k.any⟩
 .rw[Va c];refine(GA h e a f Y).bw ?_;rintro b⟨d,k⟩;exact⟨⟨U,d⟩,k⟩
theorem lH(x y:UInt8):((x.toNat:Int)==(y.toNat:Int))=(x==y):=by
 rw[V4];grind[UInt8.toNat_inj]
def iJ(s s':Bd):Prop:= ∃l,s'={s with stack:=l}/\l.length<=s.stack.length
theorem iJ.refl(s:Bd):iJ s s:=⟨s.stack,U,cQ⟩
theorem iJ.trans{b:Bd}(h:iJ f b)(k:iJ b x):iJ f x:=by
 obtain⟨l,rfl,a⟩:=h;obtain⟨m,rfl,c⟩:=k;exact⟨m,U,Vk c a⟩
theorem ij{s s':Bd}{u:UInt8}(h:cX s=M (u,s')):iJ s s':=by
 unfold cX at h;split at h
 .cases h
 .cases h;exact⟨_,U,Vc⟩
theorem eA{s s':Bd}{u:UInt8}(h:cO s u=M s'):iJ s s':=by
 grind[cO,ij]
def abd(E:ez)(g:Nat)(w':Yw)(s:Bd)(m:Option Bd)(r:Ending):Prop:=
 match m with
 |some s'=>r= Yq (Yt Yk)/\cU E g w' s'
 |none=>r= Yq (Yt Yj)/\ ∃s',cU E g w' s'/\iJ s s'
def jf(h:cU E g w s)(n:s.af≠[])(k:s.af.length<=17)(o:s.stack.length<=1000000)(t:UInt8):
  Yy prog 276 #[aj E.bb,V Ys t.toNat] w λr a=>abd E g a s (cO s t) r/\Kp (one E.bb) w a:=by
 have b:=pD h n k o;have f:cO s t=(match cX s with |none=>H|some (u,s')=>if u=t then M s' else H):=rfl;have d:=λu s'=>ij (s:=s) (s':=s') (u:=u)
 generalize cO s t=R at *;generalize cX s=a at *;match a,f,b,d with
 |none,f,b,_=>
  go_enter func276,ntmps276;go_wp2_with fail;refine b.mono ?_;rintro r l⟨⟨rfl,i⟩,j⟩;go_wp2;go_ret;rw[f];exact⟨⟨U,s,i,iJ.refl s⟩,j⟩
 |some (u,s'),f,b,d=>
  have p:=d u s' U;have m:=lH u t;by_cases c:u=t
  .have e:(u==t)=true:=by simpa using c
   rw[e]at m;go_enter func276,ntmps276;go_wp2_with fail;refine b.mono ?_;rintro r l⟨⟨rfl,i⟩,j⟩;go_wp2;go_ret;rw[f];simp only[Vi c];exact⟨⟨U,i⟩,j⟩
  .have e:(u==t)=false:=by simpa using c
   rw[e]at m;go_enter func276,ntmps276;go_wp2_with fail;refine b.mono ?_;rintro r l⟨⟨rfl,i⟩,j⟩;go_wp2;go_ret;rw[f];simp only[Va c];exact⟨⟨U,s',i,p⟩,j⟩
end
section
variable{E:ez}{g:Nat}{w:World}{s:Bd}
def rN(k:Nat):∀{s a:Bd},fh D k s=M a->iJ s a:=by
 induction k with
 |zero=>intro s a h;cases h;grind[iJ.refl]
 |succ k ih=>
  grind[fh,eA,iJ.trans]
def pE(h:cU E g w s)(x:s.af≠[])(y:s.af.length<=17)(X:s.stack.length<=1000000)(G:aq w v D)(K:D.length<=1000000)(z:∀b,v.ownBlock=M b->b≠E.bb):
  Yy prog 267 #[aj E.bb,v] w λr a=>abd E g a s (bQ s D) r/\Kp (one E.bb) w a:=by
 have I:bQ s D=fh D D.length s:=rfl;generalize bQ s D=R at *;obtain⟨ad,L,p,N⟩:=G.aJ;subst p;go_enter func267,ntmps267;go_wp2;go_loopw [5] (λa wr=> ∃(k:Nat) (d:Bd),k<=D.length/\a= V O ((k:Int)-1)/\cU E g wr d/\Kp (one E.bb) w wr/\fh D k d=fh D D.length s/\iJ s d) (λa _=>((intOf a)+1).toNat);case atStart=>exact⟨D.length,s,cQ,U,h,iR,U,iJ.refl s⟩
 case round=>
  obtain⟨k,d,hk,rfl,n,i,f,j⟩:=hrel;have m:d.af≠[]/\d.af.length<=17/\d.stack.length<=1000000:=by
   obtain⟨l,rfl,a⟩:=j;exact⟨x,y,by simp only;omega⟩
  have J:=Z f;by_cases A:k=0
  .have a:fh D 0 d=fh D D.length s:=by rw[<-A];exact J
   have c:(k:Int)-1<0:=Y
   go_wp2;go_ret;rw[I,<-a];exact⟨⟨U,n⟩,i⟩
  .obtain⟨q,rfl⟩:∃q,k=q+1:=⟨k-1,Y⟩;have P:(((q+1:Nat):Int)-1)=(q:Int):=Y
   obtain⟨a,o,S,p,_,T⟩:=aq.get (G.kp i (λb x e=>z b x e)) (show q<D.length by omega);simp only[Vz]at p;obtain⟨rfl,-,rfl⟩:=p;have f:=J.out;rw[fh]at f;have c:=jf n m.1 m.2.1 m.2.2 (D.getD q 0);have e:=λs'=>eA (s:=d) (s':=s') (u:=D.getD q 0)
   generalize D.getD q 0=t at *;generalize cO d t=b at *;rw[P];match b,c,f,e with
   |none,c,f,_=>
    change Hid _ at f;go_wp2_with fail;refine c.mono ?_;rintro r W⟨⟨rfl,l,B,C⟩,F⟩;go_wp2;go_ret;rw[I,<-f.out];exact⟨⟨U,l,B,j.trans C⟩,i.trans F⟩
   |some l,c,f,e=>
    have C:=e l U;clear e;change Hid _ at f;go_wp2_with fail;refine c.mono ?_;rintro r W⟨⟨rfl,B⟩,F⟩;go_wp2;go_roundw;case rel=>exact⟨q,l,Y,U,B,i.trans F,f,j.trans C⟩
    case measure=>simp[intOf]
def jI(h:cU E g w s)(p:k<s.af.length):
  Yy prog 288 #[Yv (M ⟨g,k*5,H⟩)] w λr a=>(∃v,r= Yq v/\aq w v (aO (s.bk k))/\(∀b,v.ownBlock=M b->b≠E.bb))/\a=w:=by
 obtain⟨r,y,z,A,B,h⟩:=h;obtain⟨C,D,a,t,F,-,-,-⟩:=h.bk p;have c:=h.results k _ a;have d:=h.rr k _ a;have f:=h.r3;have i:aO (s.bk k)=if (s.bk k).bq=2 then []else (s.bk k).aL:=rfl
 generalize aO (s.bk k)=R at *;generalize s.bk k=b at *;obtain⟨l,u,G,I,J⟩:=b;simp only at *;obtain⟨K,x,rfl,-⟩:=c.aJ;have HB:=Z c;clear h c a;change Hid _ at f i;replace d:=Z d;by_cases n:l=2
 .subst n;go_enter func288,ntmps288;go_wp2;go_ret;rw[i.out];exact⟨⟨_,U,aq.nil w,λb j=>by cases j⟩,U⟩
 .have L:((l:Int)==2)=false:=Vd
  go_enter func288,ntmps288;go_wp2;go_ret;rw[i.out,Va n];exact⟨⟨_,U,HB,λb j e=>by have:=(d b j).1;rw[e,f.out]at this;cases this⟩,U⟩
end
section
variable{E:ez}{g:Nat}{w:World}{s:Bd}
def cU.quiet(h:cU E g w s)(k:Kp no w W):cU E g W s:=by
 obtain⟨a,b,c,d,e,h⟩:=h;exact⟨a,b,c,d,e,h.quiet k⟩
theorem cU.read(h:cU E g w s)(k:Kp (one E.rb) w W)(b:kC W E.rb E.dv E.c.D j):cU E g W {s with i:=j}:=by
 obtain⟨a,c,d,e,f,h⟩:=h;exact⟨a,c,d,e,f,h.zU k b⟩
def cU.jF(h:cU E g w s)(k:Kp (one E.rb) w W):Kp (fy E.ro) w W:=by
 obtain⟨a,c,d,f,i,h⟩:=h;exact k.mono (λb _ (e:b=E.rb) j=>by grind[bT.ro,bT.r1])
def cU.rd(h:cU E g w s):kC w E.rb E.dv E.c.D s.i:=by
 obtain⟨a,b,c,d,e,h⟩:=h;exact h.rd
def cU.env(h:cU E g w s):E.Ok w:=by
 obtain⟨a,b,c,d,e,h⟩:=h;exact h.env
def Ei(h:cU E g w s)(k:Nat)(a:s.aR=Yk):
  df 280 #[aj E.bb,Yv (M ⟨g,k*5,H⟩)] w (Yt Yk) λb=>Kp no w b:=by
 obtain⟨c,d,e,f,i,h⟩:=h;obtain⟨b,j⟩:=ae h.body;rw[a]at b;go_enter func280,ntmps280;go_wp2;go_quiet(fail);go_wp2;go_ret;exact⟨U,(Kp.refl _ _).drewN _⟩
def KH(h:cU E g w s)(y:k<s.af.length)(t:(s.bk k).aH<=s.stack.length)(z:s.stack.length<=1000000)(u:s.aR=Yj):
  df 280 #[aj E.bb,Yv (M ⟨g,k*5,H⟩)] w (Yt (s.stack.drop (s.bk k).aH==(s.bk k).aL)) λc=>Kp no w c:=by
 obtain⟨A,B,L,N,R,h⟩:=h;obtain⟨C,S⟩:=ae h.body;rw[u]at C;obtain⟨T,W,x,-,X,D,-,-⟩:=h.bk y;have d:=h.results k _ x;have p:aq w B s.stack:=aw.own h.stack;simp only at d;generalize s.bk k=b at *;obtain⟨kd,i,f,st,ws⟩:=b;simp only at *;obtain⟨j,l,rfl,-⟩:=d.aJ;have F:(0:Int)<=(f:Int):=Y
 have G:(f:Int)<=(s.stack.length:Int):=Y
 rcases p.cases with⟨rfl,r⟩|⟨a,o,n,rfl,I,-⟩
 .rw[r]at t;have J:f=0:=by simpa using t
  subst J;go_enter func280,ntmps280;go_wp2_with fail;go_region_held3 (λc=>c.cell? ⟨E.bb,7,H⟩=M (Yt Yj)/\c.cell? ⟨E.bb,4,H⟩=M (Q H 0 0)/\c.cell? ⟨g,k*5+1,H⟩=M (Q j i.length l)/\c.cell? ⟨g,k*5+2,H⟩=M (V O 0)) (go_keep) (first |(go_at_call 287;refine(fq (w:=w.drew) (aq.nil w) d).mono ?_;rintro e c⟨rfl,rfl⟩));go_wp2;go_ret;rw[r];exact⟨by cases i<;>rfl,fL⟩
 .by_cases J:n=f
  .have K:=show aq w (Q (M ⟨a,o,H⟩) (s.stack.length-f) 0) (s.stack.drop f)by rw[show s.stack.length-f=0 by omega,WR Y];exact⟨U,Yp ⟨a,o,0,U,cQ,λ_ _ h=>by simp at h⟩⟩
   go_enter func280,ntmps280;go_wp2_with fail;go_region_held3 (λc=>c.cell? ⟨E.bb,7,H⟩=M (Yt Yj)/\c.cell? ⟨E.bb,4,H⟩=M (Q (M ⟨a,o,H⟩) s.stack.length n)/\c.cell? ⟨g,k*5+1,H⟩=M (Q j i.length l)/\c.cell? ⟨g,k*5+2,H⟩=M (V O f)) (go_keep) (first |(go_at_call 287;refine(fq (w:=w.drew) K d).mono ?_;rintro e c⟨rfl,rfl⟩));go_wp2;go_ret;exact⟨U,fL⟩
  .go_enter func280,ntmps280;go_wp2_with fail;go_region_held3 (λc=>c.cell? ⟨E.bb,7,H⟩=M (Yt Yj)/\c.cell? ⟨E.bb,4,H⟩=M (Q (M ⟨a,o,H⟩) s.stack.length n)/\c.cell? ⟨g,k*5+1,H⟩=M (Q j i.length l)/\c.cell? ⟨g,k*5+2,H⟩=M (V O f)) (go_keep) (first |(go_at_call 287;refine(fq (w:=w.drew) (p.mid f s.stack.length t cQ) d).mono ?_;rintro e c⟨rfl,rfl⟩));go_wp2;go_ret;exact⟨U,fL⟩
def sX(h:cU E g w s)(c:k<s.af.length)(d:(s.bk k).aH<=s.stack.length)(e:s.stack.length<=1000000):
  df 280 #[aj E.bb,Yv (M ⟨g,k*5,H⟩)] w (Yt (nB s k)) λb=>Kp no w b:=by
 cases a:s.aR
 .simp_all[KH,nB]
 .refine(Ei h k a).mono ?_;simp_all[nB]
def Oq(E:ez)(g:Nat)(w w':Yw)(m:Except (Int×Int) (Nat×Bd))(r:Ending):Prop:=
 match m with
 | Yn (k,s')=>r= Yq (Yu #[Yv (M ⟨g,k*5,H⟩),Yv H])/\cU E g w' s'
 | Ym e=> ∃fv,r= Yq (Yu #[Yv H,fv])/\gJ w w' fv e
def cz{lim:Int}(h:bp D lim i= Yn (n,j)):(n:Int)<lim/\i<j/\j<=D.length:=by
 unfold bp at h;split at h
 .cases h
 .rename_i b c a;split at h
  .cases h
  .cases h;have:=DB a;omega
def nh(h:cU E g w s)(z:s.af≠[])(A:s.af.length<=17):
  Yy prog 283 #[aj E.bb] w λr d=>Oq E g w d (bf E.c s) r/\Kp (one E.rb) w d:=by
 have l:bf E.c s=(match bp E.c.D s.af.length s.i with | Ym e=> Ym e| Yn (n,j)=> Yn (s.af.length-1-n,{s with i:=j})):=rfl;generalize bf E.c s=R at *;have c:=λW (k:Kp no w W)=>fM (h.quiet k).rd s.af.length Y Y
 have f:=λn j=>cz (D:=E.c.D) (lim:=(s.af.length:Int)) (i:=s.i) (n:=n) (j:=j)
 generalize bp E.c.D s.af.length s.i=a at *;have C:=Vs.2 z;have b:=Z h;obtain⟨B,F,G,u,I,h⟩:=h;obtain⟨J,K⟩:=ae h.body;have k:=Z h.body;have m:E.bb≠E.rb:=λe=>by have:=h.r3;rw[e,h.r1]at this;cases this
 match a,l,c,f with
 | Ym e,l,c,_=>
  go_enter func283,ntmps283;go_wp2_with fail;go_region_held3 (λd=>d.cell? ⟨E.bb,0,H⟩=M (aj E.rb)/\d.cell? ⟨E.bb,5,H⟩=M (Q (M ⟨g,0,H⟩) s.af.length u)) (go_keep) (first |(go_at_call 105;refine(c w.drew ((Kp.refl no w).drew)).mono ?_;rintro e x⟨⟨L,j,rfl,⟨v,rfl,p,q⟩,y⟩,o⟩;obtain⟨r,t⟩:=ae (o.az (k) m)));go_wp2;go_ret2;rw[l];exact⟨⟨aj v,U,v,U,p,q⟩,((Kp.refl (one E.rb) w).drew).trans o⟩
 | Yn (n,j),l,c,f=>
  have p:=(f n j U).1;go_enter func283,ntmps283;go_wp2_with fail;go_region_held3 (λd=>d.cell? ⟨E.bb,0,H⟩=M (aj E.rb)/\d.cell? ⟨E.bb,5,H⟩=M (Q (M ⟨g,0,H⟩) s.af.length u)) (go_keep) (first |(go_at_call 105;refine(c w.drew ((Kp.refl no w).drew)).mono ?_;rintro e x⟨⟨v,rfl,rfl,y⟩,o⟩;obtain⟨r,t⟩:=ae (o.az (k) m)));have d:=(Kp.refl (one E.rb) w).drew.trans o;go_wp2;go_quiet(fail);go_wp2;go_ret2;rw[l];exact⟨⟨U,(b.read d y).quiet ((Kp.refl no x).drewN _)⟩,d.drewN _⟩
end
section
variable{E:ez}{g:Nat}{w:World}{s:Bd}
theorem iJ.bk{s:Bd}(h:iJ s f)(k:Nat):f.bk k=s.bk k:=by
 obtain⟨l,rfl,-⟩:=h;rfl
theorem iJ.len{s:Bd}(h:iJ s f):f.af.length=s.af.length:=by
 obtain⟨l,rfl,-⟩:=h;rfl
def iJ.QY{s:Bd}(h:iJ s f):f.stack.length<=s.stack.length:=by
 obtain⟨l,rfl,a⟩:=h;exact a
def iJ.pos{s:Bd}(h:iJ s f):f.pos=s.pos:=by
 obtain⟨l,rfl,a⟩:=h;rfl
def RM(E:ez)(g:Nat)(w':Yw)(s:Bd)(m:Option Bd)(r:Ending):Prop:=
 match m with
 |some s'=>r= Yq (Yt Yk)/\cU E g w' s'
 |none=>r= Yq (Yt Yj)/\ ∃s',cU E g w' s'/\s'.pos=s.pos
def pF(h:cU E g w s)(j:s.af.length<=17)(y:s.stack.length<=1000000)(x:k<s.af.length)(G:(aO (s.bk k)).length<=1):
  Yy prog 284 #[aj E.bb,Yv (M ⟨g,k*5,H⟩)] w λr a=>RM E g a s (dg s k) r/\Kp (fy E.ro) w a:=by
 have c:dg s k=(bQ s (aO (s.bk k))).map λa=>fj a (aO (s.bk k)):=rfl
 generalize dg s k=R at *;have z:s.af≠[]:=λe=>Ve
 have l:=jI h x;have d:∀a,bQ s (aO (s.bk k))=M a->iJ s a:=λa b=>rN _ b
 go_enter func284,ntmps284;go_wp2_with fail;refine l.mono ?_;rintro r I⟨⟨v,rfl,e,n⟩,rfl⟩;have b:=pE h z j y e Y n;have c:=c;generalize bQ s (aO (s.bk k))=a at *;obtain⟨J,A,rfl,-⟩:=e.aJ;match a,c,b,d with
 |none,c,b,_=>
  go_wp2_with fail;refine b.mono ?_;rintro r B⟨⟨rfl,p,i,f⟩,t⟩;go_wp2;go_ret;rw[c];exact⟨⟨U,p,i,f.pos⟩,h.dV t⟩
 |some p,c,b,d=>
  have HS:=d p U;go_wp2_with fail;refine b.mono ?_;rintro r B⟨⟨rfl,i⟩,t⟩;have f:=jI i (k:=k) (by rw[HS.len];exact x);rw[HS.bk]at f;go_wp2_with fail;refine f.mono ?_;rintro r K⟨⟨L,rfl,u,C⟩,rfl⟩;go_wp2_with fail;refine(og i u (cj HS.QY) Y).bw ?_;rintro N⟨D,F⟩;go_wp2;go_ret;rw[c];exact⟨⟨U,D⟩,(h.dV t).trans F⟩
def I9{c:Nat->Nat}{l:List uz}(h:bT E g w s c v u k l)(f:u= Q (M ⟨a,0,H⟩) s.ao.length i)(q:n<s.ao.length)(m:Kp no w W):
  cU E g (W.setCell ⟨a,n*5+2,H⟩ (V O s.ao.length)) (dZ s n)/\Kp (fy E.ro) w (W.setCell ⟨a,n*5+2,H⟩ (V O s.ao.length)):=by
 subst f;have d:=h.quiet m;have o:Kp (λb=>(λr=>r=2\/r=6) (c b)) W (W.setCell ⟨a,n*5+2,H⟩ (V O s.ao.length)):=(Kp.refl _ W).bE (Yp (h.r6 a U)) _ _;have b:=(d.ao.stored (n*5+2) (V O s.ao.length)).1;have p:=Vj q;have j:(s.ao.flatMap dQ.cells).set (n*5+2) (V O s.ao.length)=(s.ao.set n {s.ao.getD n ⟨0,0,0,0,0⟩with goal:=s.ao.length}).flatMap dQ.cells:=
  pj dQ.len s.ao n 2 Vb s.ao[n] _ _ p (by rw[List.getD,p];rfl)
 rw[j]at b;have t:(W.setCell ⟨a,n*5+2,H⟩ (V O s.ao.length)).heap[E.mb]?=M (rJ E (Q (M ⟨a,0,H⟩) s.ao.length i)):=aB (λe=>by have:=h.r6 a U;rw[<-e,h.r2]at this;cases this) _ d.mod;refine⟨⟨c,v,_,k,l,d.IX o t ?_ d.r6⟩,m.any.trans (d.fy (X:=λr=>r=2\/r=6) o Vb)⟩;grind
def Ak{P:Prop}(h:P:=by
 intro W k;refine⟨?_,(hcell W k).frozenAt _⟩;rw[(hcell W k).cellAt (n*5+2) Y,kI dQ.len s.ao n 2 Vb,List.getD,Vj hn];rfl):P:=h
def RN(h:cU E g w s){n:Nat}(hn:n<s.ao.length)(o:s.ao.length<=1000000):
  df 282 #[aj E.bb,V O n] w (Yu #[]) λc=>cU E g c (dZ s n)/\Kp (fy E.ro) w c:=by
 have f:=λW (k:Kp no w W)=>xJ (h.quiet k) o
 obtain⟨p,R,S,T,X,h⟩:=h;obtain⟨q,-⟩:=ae h.body;obtain⟨hm,r⟩:=ae h.mod;obtain⟨a,i,b,-,-⟩:=h.ao.form Y;have j:=aw.own h.ao;obtain⟨t,u,l,v⟩:=j.aJ;have x:=λW (k:Kp no w W)=>I9 h b hn k
 have y:a≠E.bb:=λe=>by have:=h.r6 a (by rw[b];rfl);rw[e,h.r3]at this;cases this
 have z:a≠E.mb:=λe=>by have:=h.r6 a (by rw[b];rfl);rw[e,h.r2]at this;cases this
 have hcell:=λW (k:Kp no w W)=>(k.own h.ao bW)
 have m:=Z h.body;have k:=Z h.mod;subst b;cases l;have d:∀W,Kp no w W->W.cell? ⟨a,n*5+2,H⟩=M (V O (s.ao.getD n ⟨0,0,0,0,0⟩).goal)/\W.frozen? ⟨a,n*5+2,H⟩=false:=by
  exact Ak
 generalize(s.ao.getD n ⟨0,0,0,0,0⟩).goal=A at *;have B:(0:Int)<=(n:Int):=Y
 have C:(n:Int)<(s.ao.length:Int):=Y
 obtain⟨D,F⟩:=d w (Kp.refl no w);go_enter func282,ntmps282;go_wp2_with fail;go_region_held3 (λc=>c.cell? ⟨E.bb,1,H⟩=M (aj E.mb)/\c.cell? ⟨E.mb,3,H⟩=M (Q (M ⟨a,0,H⟩) s.ao.length i)) (go_keep) (first |(go_at_call 278;refine(f w.drew ((Kp.refl no w).drew)).mono ?_;rintro e G⟨rfl,c⟩;obtain⟨I,J⟩:=ae (c.az (m) id);obtain⟨K,L⟩:=ae (c.az (show w.drew.heap[E.mb]?=_ from k) id);obtain⟨N,P⟩:=d G ((Kp.refl no w).drew.trans c)));have e:=(Kp.refl no w).drew.trans c;go_end0;grind
def KI:(Tryz.prog.info? 3).map (λi=>(i.zero,i.size,i.bytes))=M (M (V O 0),1,8):=Vf
def Am{P:Prop}(h:P:=by
 rw[q]at q4;clear q h3 h4;go_enter func277,ntmps277;go_wp2;go_ret;simp):P:=h
def GD(a:UInt8)(w:Yw):fX 277 #[V Ys a.toNat] w (V O ((if a=3 then 2 else if a=4 then 3 else 1:Nat):Int)):=by
 have b:((a.toNat:Int)==3)=(a==3):=lH a 3;have q4:((a.toNat:Int)==4)=(a==4):=lH a 4;by_cases h3:a=3
 .rw[Vi h3];have q:(a==3)=true:=Ve
  rw[q]at b;clear q4 q h3;go_enter func277,ntmps277;go_wp2;go_ret;simp
 .rw[Va h3];have q:(a==3)=false:=Ve
  rw[q]at b;by_cases h4:a=4
  .rw[Vi h4];have q:(a==4)=true:=Ve
   exact Am
  .rw[Va h4];have q:(a==4)=false:=Ve
   exact Am
def KJ{f:Nat->Nat}{l:List uz}(h:bT E g w s f u z i l)(S:k<s.af.length){rv wv:Yx}(c:l[k]?=M (s.bk k,rv,wv)){w1:Yw}(A:Kp no w W){v1:Yx}{xs:List Yx}{dY:Nat}
  (L:n=(s.bk k).waits.length+1)(B:xs=((s.bk k).waits.map λn=>Value.int O ((n:Nat):Int))++[V O dY])
  (C:w1.ownsRow E.B 3 1 v1 n xs)(y:W.grownBy w1 wv.ownBlock)(D:v1.ownBlock=wv.ownBlock\/v1.ownBlock=M W.heap.size):
  cU E g (w1.setCell ⟨g,k*5+4,H⟩ v1) {s with af:=s.af.set k {s.bk k with waits:=(s.bk k).waits++[dY]}}/\Kp (fy E.ro) w (w1.setCell ⟨g,k*5+4,H⟩ v1):=by
 subst L B;have a:=h.pn (100+k);have N:Kp (λb=>(λr=>r=5\/r=100+k) (dC f w.heap.size (100+k) b)) w w1:=(A.any).bS y (λb t=> Yo (Yp (a.rw k _ c b t)));have d:Kp (λb=>(λr=>r=5\/r=100+k) (dC f w.heap.size (100+k) b)) w (w1.setCell ⟨g,k*5+4,H⟩ v1):=N.bE (Yo a.r5) _ v1;have K:∀b,v1.ownBlock=M b->dC f w.heap.size (100+k) b=100+k:=by
  intro b t;rcases D with e|e
  .exact a.rw k _ c b (e▸t)
  .rw[t]at e;cases e;exact ef A.size
 have F:=(A.any).bS y (λb t=> Yo (a.rw k _ c b t));have G:=a.nW (X:=λr=>r=100+k) F Y;have I:=(G.stored (k*5+4) v1).1;have J:(l.flatMap fH).set (k*5+4) v1=(l.set k ({s.bk k with waits:=(s.bk k).waits++[dY]},rv,v1)).flatMap fH:=pj DU l k 4 Vb _ _ _ c U;rw[J]at I;have T:k<l.length:=by
  grind
 have p:∀(j:Nat) (x:uz),(l.set k ({s.bk k with waits:=(s.bk k).waits++[dY]},rv,v1))[j]?=M x->(j=k/\x=({s.bk k with waits:=(s.bk k).waits++[dY]},rv,v1))\/(j≠k/\l[j]?=M x):=by
  grind
 have R:(w1.setCell ⟨g,k*5+4,H⟩ v1).ownsRow E.B 3 1 v1 ((s.bk k).waits.length+1) (((s.bk k).waits.map λn=>Value.int O ((n:Nat):Int))++[V O dY]):=
  ((Kp.refl (one g) w1).bK _ v1).own C (λb t (e:b=g)=>by subst e;have:=K _ t;rw[a.r5]at this;omega)
 refine⟨⟨dC f w.heap.size (100+k),u,z,i,l.set k ({s.bk k with waits:=(s.bk k).waits++[dY]},rv,v1),?_⟩,a.fy (X:=λr=>r=5\/r=100+k) d Y⟩;refine⟨a.Ce (X:=λr=>r=5\/r=100+k) d Y,(a.DV (X:=λr=>r=5\/r=100+k) d Y Y:),?_,(a.nV (X:=λr=>r=5\/r=100+k) d Y:),(a.lL (X:=λr=>r=5\/r=100+k) d Y:),?_,(a.jD (X:=λr=>r=5\/r=100+k) d Y:),?_,?_,?_,a.r1,a.r2,a.r3,a.r4,a.r5,a.r6,?_,?_,a.ro,a.Rt (X:=λr=>r=5\/r=100+k) d⟩
 .have :=a.DW (X:=λr=>r=5\/r=100+k) d Y;grind
 .grind
 .simp only[Xf,h.eq]
 .intro j x b;rcases p j x b with⟨rfl,rfl⟩|⟨e,b⟩
  .grind
  .exact a.nX (X:=λr=>r=5\/r=100+k) d j x b Y
 .intro j x b;rcases p j x b with⟨rfl,rfl⟩|⟨e,b⟩
  .exact(a.iL (X:=λr=>r=5\/r=100+j) d Y j _ c:)
  .exact a.iL (X:=λr=>r=5\/r=100+k) d Y j x b
 .intro j x b;rcases p j x b with⟨rfl,rfl⟩|⟨e,b⟩
  .exact K
  .exact a.rw j x b
 .intro j x b;rcases p j x b with⟨rfl,rfl⟩|⟨e,b⟩
  .exact(a.Q0 (X:=λr=>r=5\/r=100+j) d j _ c:)
  .exact a.Q0 (X:=λr=>r=5\/r=100+k) d j x b
end
section
variable{E:ez}{g:Nat}{w:World}{s:Bd}
def Cv{op:UInt8}(a:(s.bk k).bq=2):bu s op k=bo s ⟨op,0,(s.bk k).start,(s.bk k).aH,(aO (s.bk k)).length⟩:=by
 simp_all[bu]
theorem KK(h:cU E g w s)(p:k<s.af.length)(i:UInt8)(t:s.ao.length<=1000000)(u:(s.bk k).start<=1000000)(x:(s.bk k).aH<=1000000)(c:(s.bk k).bq=2):
  df 281 #[aj E.bb,V Ys i.toNat,Yv (M ⟨g,k*5,H⟩)] w (Yu #[]) λe=>cU E g e (bu s i k)/\Kp (fy E.ro) w e:=by
 rw[Cv c];have d:=λW (a:Kp no w W)=>jI (h.quiet a) p
 have j:aO (s.bk k)=[]:=by unfold aO;rw[Vi c]
 rw[j]at d⊢;have a:=Z h;obtain⟨y,J,K,L,N,h⟩:=h;obtain⟨R,S,z,l,T,A,B,-⟩:=h.bk p;rw[c]at l;have C:=bR h.af U;generalize s.bk k=b at *;obtain⟨W,D,r,F,X⟩:=b;simp only at *;subst c;go_enter func281,ntmps281;go_wp2_with fail;go_region_held3 (λe=>e.cell? ⟨g,k*5+2,H⟩=M (V O r)) (go_keep) (first |(go_at_call 288;refine(d _ (by first |exact(Kp.refl no w).drew|exact((Kp.refl no w).alloc _).drew)).mono ?_;rintro e w1⟨⟨v,rfl,f,n⟩,rfl⟩;obtain⟨G,I,rfl,-⟩:=f.aJ;clear f n));all_goals
  go_wp2_with fail;refine(eT (a.quiet (((Kp.refl no w).alloc _).drew)) ⟨i,0,F,r,0⟩ t).bw ?_;rintro n⟨c,e⟩;have f:=(((Kp.refl (fy E.ro) w).alloc _).drew).trans e;go_wp2;go_end0;exact⟨U,c,f⟩
def Cw{op:UInt8}(a:(s.bk k).bq≠2):bu s op k=bo {s with af:=s.af.set k {s.bk k with waits:=(s.bk k).waits++[s.ao.length]}} ⟨op,0,0,(s.bk k).aH,(aO (s.bk k)).length⟩:=by
 simp_all[bu]
theorem KM(h:cU E g w s)(r:k<s.af.length)(t:UInt8)(hc:s.ao.length<=1000000)(h0:(s.bk k).aH<=1000000)(h1:(s.bk k).waits.length<=1000000)(h2:(aO (s.bk k)).length<=1)(h3:(s.bk k).bq≠2):
  df 281 #[aj E.bb,V Ys t.toNat,Yv (M ⟨g,k*5,H⟩)] w (Yu #[]) λd=>cU E g d (bu s t k)/\Kp (fy E.ro) w d:=by
 rw[Cw h3];obtain⟨i0,u,x,y,z⟩:=info_parts KI;have A:=λW (a:Kp no w W)=>jI (h.quiet a) r
 have B:=λW (a:Kp no w W)=>xJ (h.quiet a) hc
 have hB:=h.env.base;obtain⟨h4,sv,cv,kc,bs,h⟩:=h;obtain⟨rv,wv,c,h5,hr,h6,h7,C⟩:=h.bk r;have D:=bR h.af U;have i:=λW (a:Kp no w W)=>a.aY C
 have j:=λW (a:Kp no w W)=>(a.own h.af bW).frozenAt (k*5+4)
 have f:=λW (a:Kp no w W)=>a.own (h.waits k _ c) bW
 have F:∀b,wv.ownBlock=M b->b<w.heap.size:=λb e=>bR (h.waits k _ c) e
 have ng:M g≠wv.ownBlock:=λe=>by have:=h.rw k _ c g e.symm;rw[h.r5]at this;omega
 have G:=λW w1 (a:Kp no w W) v1 n xs dY=>KJ h r c (W:=W) (w1:=w1) a (v1:=v1) (n:=n) (xs:=xs) (dY:=dY)
 simp only at f;obtain⟨I,J,K⟩:=aA (f w (Kp.refl no w));generalize aO (s.bk k)=vl at *;generalize s.bk k=b at *;obtain⟨kd,h8,L,st,N⟩:=b;simp only at *;have q2:((kd:Int)==2)=false:=Vd
 subst K;go_enter func281,ntmps281;go_wp2_with fail;go_region_held3 (λd=>d.cell? ⟨g,k*5+2,H⟩=M (V O L)) (go_keep) (first |(go_at_call 288;refine(A _ (by first |exact(Kp.refl no w).drew|exact((Kp.refl no w).alloc _).drew)).mono ?_;rintro e w1⟨⟨v,rfl,a,d⟩,rfl⟩;obtain⟨l,p,rfl,-⟩:=a.aJ;clear a d));all_goals
  go_wp2_with fail;go_region_law (first |((refine sc (B _ (by repeat' first |exact Kp.refl _ _|apply Kp.drew|apply Kp.drewN|apply Kp.alloc)) ?_;rintro e a⟨rfl,p⟩;refine⟨_,rfl,?_⟩;have d:=Kp.trans (show Kp no w _ from(by repeat' first |exact Kp.refl _ _|apply Kp.drew|apply Kp.drewN|apply Kp.alloc)) p;have R:=i a d;have S:=j a d;have T:g<a.heap.size:=Vm D d.size;have l:=Kp.az p (k:=w.heap.size) (o:= Yl #[V O 0,V O L,V O vl.length] 212) (ai w _) id))|((refine bJ _ Vg _ _ _ Vg E.B 3 i0 _ 1 8 underlying44 u x y z rfl Y (Q I N.length J) N.length _ Vg ((f a d).alloc _) (Q (M ⟨a.heap.size,0,H⟩) 1 1) 1 [V O s.ao.length] Vg (aw.lq rfl #[V O s.ao.length] _ 1 1 rfl) (by simp[Value.oneCell']) (by simp only[maxLen];omega) Y (by have:=d.size;simp;omega) ?_;intro v1 w5 p a R;obtain⟨S,T,rfl⟩:=aA p;have h9:=(a.cell_far ⟨g,k*5+4,H⟩ Vd ng).trans (i _ (d.alloc _));have k0:=(a.frozen_far ⟨g,k*5+4,H⟩ Vd ng).trans (j _ (d.alloc _));have X:=(a.block w.heap.size (by have:=au l;simp;omega) (λe=>cj (F _ e.symm))).trans (ah l))))
 all_goals
  obtain⟨e,l⟩:=G _ _ (d.alloc _) _ _ _ _ U U p a R;obtain⟨d,p⟩:=ae (aB (b:=g) (o:=k*5+4) Y (Q S (N.length+1) T) X);go_wp2_with fail;refine(eT e ⟨t,0,0,L,vl.length⟩ hc).bw ?_;rintro T⟨R,S⟩;have a:=l.trans S;go_wp2;go_end0;exact⟨U,R,a⟩
end
structure Sz(N:Nat)(s:Bd):Prop where
 bl:s.af.length<=17
 st:s.stack.length<=N
 cd:s.ao.length<=N
 top:s.top.aH<=s.stack.length
 mono:∀j k,j<=k->k<s.af.length->(s.bk j).aH<=(s.bk k).aH
 wt:∀k,k<s.af.length->(s.bk k).waits.length<=N/\(s.bk k).start<=N+1/\(s.bk k).aL.length<=1/\(∀n∈(s.bk k).waits,n<s.ao.length)/\((s.bk k).bq=3->1<=(s.bk k).start/\(s.bk k).start<=s.ao.length)
theorem Sz.aH(z:Sz n f)(a:k<f.af.length):(f.bk k).aH<=f.stack.length:=by
 have b:=z.mono k (f.af.length-1) Y Y;have c:=z.top;grind[Bd.top]
theorem Sz.le(z:Sz n f)(h:n<=i):Sz i f:=
 ⟨z.bl,Vk z.st h,Vk z.cd h,z.top,z.mono,λk a=>⟨Vk (z.wt k a).1 h,cj ((z.wt k a).2.1),(z.wt k a).2.2⟩⟩
theorem Sz.read(z:Sz n f)(i p:Nat)(c:Bool):Sz n {f with i:=i,pos:=p,aR:=c}:=⟨z.bl,z.st,z.cd,z.top,z.mono,z.wt⟩
theorem qD{b:Bk}(h:b.aL.length<=1):(aO b).length<=1:=by
 grind[aO]
def Cx(z:Sz n f)(h:iJ f x)(a:x.top.aH<=x.stack.length):Sz n x:=by
 obtain⟨l,rfl,b⟩:=h;exact⟨z.bl,Vk b z.st,z.cd,a,z.mono,z.wt⟩
theorem pG{u:UInt8}(h:cX f=M (u,x)):x.stack.length+1=f.stack.length/\x.top.aH<=x.stack.length/\iJ f x:=by
 have a:=ij h;unfold cX at h;split at h
 .cases h
 .rename_i b;cases h;refine⟨Vd,?_,a⟩;show f.top.aH<=_
  simp;omega
theorem xQ{u:UInt8}(h:cO f u=M x):x.stack.length+1=f.stack.length/\x.top.aH<=x.stack.length/\iJ f x:=by
 grind[cO,pG]
def uJ(k:Nat):∀{s a:Bd},s.top.aH<=s.stack.length->fh D k s=M a->a.stack.length+k=s.stack.length/\a.top.aH<=a.stack.length/\iJ s a:=by
 induction k with
 |zero=>intro s a b h;cases h;simp_all[iJ.refl]
 |succ k ih=>
  grind[fh,xQ,iJ.trans]
theorem fZ{u:UInt8}(z:Sz n f)(h:cO f u=M x):Sz n x:=Cx z (xQ h).2.2 (xQ h).2.1
def oh{u:UInt8}(z:Sz n f)(h:cX f=M (u,x)):Sz n x:=Cx z (pG h).2.2 (pG h).2.1
def jO(z:Sz n f)(h:bQ f D=M x):Sz n x:=Cx z (uJ _ z.top h).2.2 (uJ _ z.top h).2.1
def xR(z:Sz n f)(a:List UInt8):Sz (n+a.length) (fj f a):=
 ⟨z.bl,by simp[fj];exact z.st,by have:=z.cd;grind[fj],by have:=z.top;show f.top.aH<=_;grind[fj],z.mono,λk b=>by have:=z.wt k b;exact⟨Vk this.1 Y,Vk this.2.1 Y,this.2.2⟩⟩
theorem jb(z:Sz n f)(h:dg f k=M x):Sz n x/\iJ f x:=by
 unfold dg at h;rw[VX]at h;obtain⟨e,g,rfl⟩:=h;obtain⟨a,b,c⟩:=uJ _ z.top g;have d:(fj e (aO (f.bk k))).stack.length=f.stack.length:=by grind[fj]
 obtain⟨l,rfl,i⟩:=c;refine⟨⟨z.bl,by rw[d];exact z.st,z.cd,?_,z.mono,z.wt⟩,⟨_,U,XG d⟩⟩;rw[d];exact z.top
theorem ik(z:Sz i f)(x:dQ):Sz (i+1) (bo f x):=
 ⟨z.bl,WG z.st,by have:=z.cd;grind[bo],z.top,z.mono,λk a=>by
  have:=z.wt k a;refine⟨WG this.1,WG this.2.1,this.2.2.1,λn a=>?_,λb=>?_⟩
  .have :=this.2.2.2.1 n a;grind[bo]
  .have :=this.2.2.2.2 b;simp[bo];exact⟨this.1,WG this.2⟩⟩
def Cy(a:k<f.af.length)(b:Bk)(j:Nat):Bd.bk {f with af:=f.af.set k b} j=if k=j then b else f.bk j:=by
 grind[Bd.bk]
def RP(z:Sz n f)(x:dQ)(g:k<f.af.length)(b:Bk)(l:b.bq=(f.bk k).bq)(p:b.aH=(f.bk k).aH)(r:b.start=(f.bk k).start)(s:b.aL=(f.bk k).aL)(t:b.waits=(f.bk k).waits++[f.ao.length]):
  Sz (n+1) (bo {f with af:=f.af.set k b} x):=by
 have u:∀j,(bo {f with af:=f.af.set k b} x).bk j=if k=j then b else f.bk j:=λj=>Cy g b j
 have a:∀j,((bo {f with af:=f.af.set k b} x).bk j).aH=(f.bk j).aH:=by
  grind
 have e:(bo {f with af:=f.af.set k b} x).af.length=f.af.length:=by simp[bo]
 have h:(bo {f with af:=f.af.set k b} x).ao.length=f.ao.length+1:=by simp[bo]
 refine⟨by grind[Sz.bl],WG z.st,cj z.cd,?_,?_,?_⟩
 .have :=z.top;unfold Bd.top at *;rw[a,e];exact this
 .intro i j c d;rw[a,a];exact z.mono i j c Y
 .intro j d;rw[e]at d;have c:=z.wt j d;grind
theorem qE(z:Sz n f)(a:UInt8)(b:k<f.af.length):Sz (n+1) (bu f a k):=by
 unfold bu;split<;>simp_all[ik,RP]
theorem GF(z:Sz i f)(n:Nat):Sz i (dZ f n):=
 ⟨z.bl,z.st,by simpa[dZ]using z.cd,z.top,z.mono,λk a=>by simpa[dZ,Bd.bk]using z.wt k a⟩
abbrev ez.plus(E:ez)(X:Nat->Prop):ez:={E with ro:=λk=>E.ro k\/X k}
section
variable{E:ez}{g N:Nat}{w:World}{s:Bd}
def Ao{P:Prop}(h:P:=by
 obtain⟨e,c,f,i,k⟩:=h2.env.funcs;refine⟨e,c,f,i,λj b=>?_⟩;obtain⟨a,o,l,m,n,p,q,r,t,u,v,x⟩:=k j b;exact⟨a,o,l,m,n,Yo p,q,r,t,λb d=> Yo (u b d),v,λb d=> Yo (x b d)⟩):P:=h
def Ap{P:Prop}(h:P:=by
 obtain⟨b,a,c,d,e⟩:=h2.env.gl;refine⟨b,a,c,d,λj f=>?_⟩;grind):P:=h
def cU.guard(h:cU E g w s)(k:Kp no w W)(X:Nat->Prop)(l:∀b,X b->w.heap.size<=b/\b<W.heap.size):cU (E.plus X) g W s:=by
 obtain⟨c,d,e,f,i,h⟩:=h;have j:=h.pn 0;have h2:=j.quiet k;refine⟨_,d,e,f,i,⟨⟨h2.env.base,λb a=> Yo (h2.env.dv b a),?_,?_,h2.env.aZ,λb a=> Yo (h2.env.lv b a),h2.env.nf,h2.env.ng,h2.env.nl,h2.env.res⟩,h2.rd,h2.body,h2.mod,h2.stack,h2.af,h2.ao,h2.eq,h2.waits,h2.results,h2.r1,h2.r2,h2.r3,h2.r4,h2.r5,h2.r6,h2.rw,h2.rr,?_,?_⟩⟩
 .exact Ao
 .exact Ap
 .grind[ef,bT.ro]
 grind[bT.lt]
def cU.cV(h:cU (E.plus S) g w s)(d:E.Ok w):cU E g w s:=by
 obtain⟨a,e,f,i,j,h⟩:=h;exact⟨a,e,f,i,j,⟨d,h.rd,h.body,h.mod,h.stack,h.af,h.ao,h.eq,h.waits,h.results,h.r1,h.r2,h.r3,h.r4,h.r5,h.r6,h.rw,h.rr,λb c=>h.ro b (Yo c),λb c=>h.lt b (Yo c)⟩⟩
def Kp.cV(k:Kp (fy (E.plus S).ro) w W):Kp (fy E.ro) w W:=k.mono (λc _ a b=>a (Yo b))
def gW(h:cU E g w s)(c:Bool):cU E g (w.setCell ⟨E.bb,7,H⟩ (Yt c)) {s with aR:=c}/\Kp (one E.bb) w (w.setCell ⟨E.bb,7,H⟩ (Yt c)):=by
 obtain⟨a,d,f,i,j,h⟩:=h;have k:Kp (one E.bb) w (w.setCell ⟨E.bb,7,H⟩ (Yt c)):=(Kp.refl _ w).bK _ _;exact⟨⟨a,d,f,i,j,h.Nv (p:=s.pos) (c:=c) (k.mono (λb _ (e:b=E.bb)=>by grind[bT.r3])) (heap_setCell h.body _)⟩,k⟩
def RQ(h:cU E g w s)(p:Nat):cU E g (w.setCell ⟨E.bb,6,H⟩ (V O p)) {s with pos:=p}/\Kp (one E.bb) w (w.setCell ⟨E.bb,6,H⟩ (V O p)):=by
 obtain⟨a,d,f,i,j,h⟩:=h;have k:Kp (one E.bb) w (w.setCell ⟨E.bb,6,H⟩ (V O p)):=(Kp.refl _ w).bK _ _;exact⟨⟨a,d,f,i,j,h.Nv (p:=p) (c:=s.aR) (k.mono (λb _ (e:b=E.bb)=>by grind[bT.r3])) (heap_setCell h.body _)⟩,k⟩
def cU.gG(h:cU E g w s):∃a b,w.heap[E.bb]?=M (eM E g s a b)/\(∃d c,a= Q d s.stack.length c):=by
 obtain⟨e,a,f,b,i,h⟩:=h;exact⟨a,b,h.body,aA h.stack⟩
def sY(h:cU E g w s)(z:Sz N s)(d:N<=500000)(a:k<s.af.length)(b:UInt8):
  df 281 #[aj E.bb,V Ys b.toNat,Yv (M ⟨g,k*5,H⟩)] w (Yu #[]) λc=>cU E g c (bu s b k)/\Kp (fy E.ro) w c:=by
 have e:=z.wt k a;have c:=z.aH a;have f:=z.st;have i:=z.cd;grind[KK,KM,qD]
def Done(E:ez)(w w':Yw)(m:sU)(r:Ending):Prop:=
 match m with
 | Yn s'=>r= Yq (Yv H)/\ ∃g',cU E g' w' s'
 | Ym e=> ∃fv,r= Yq fv/\gJ w w' fv e
def Ot(h:cU E g w s)(z:Sz N s)(j:N<=500000):Yy prog 254 #[aj E.bb] w λr a=>Done E w a (I2 s) r/\Kp (fy E.ro) w a:=by
 have k:=z.cd;go_enter func254,ntmps254;go_wp2_with fail;refine(eT h ⟨0,0,0,0,0⟩ Y).bw ?_;rintro l⟨a,b⟩;obtain⟨m,n,c,-⟩:=a.gG;obtain⟨d,e⟩:=ae c;go_wp2;go_ret;obtain⟨f,i⟩:=gW a Yk;exact⟨⟨U,g,f⟩,b.trans (a.dV i)⟩
def KN(h:cU E g w s)(z:Sz N s)(t:N<=500000)(l:s.af≠[]):Yy prog 260 #[aj E.bb] w λr a=>Done E w a (mP s) r/\Kp (fy E.ro) w a:=by
 have f:mP s=(match dg s 0 with |none=>cZ s|some c=> Yn {bu c 12 0 with aR:=Yk}):=rfl;generalize mP s=R at *;have m:=Vs.2 l;have r:=z.st;have b:=λW (a:Kp no w W)=>pF (h.quiet a) z.bl Y (k:=0) m (qD (z.wt 0 m).2.2.1)
 have d:∀c,dg s 0=M c->Sz N c/\iJ s c:=λc i=>jb z i
 generalize dg s 0=a at *;obtain⟨L,P,u,S,v,rfl⟩:=h.gG;obtain⟨x,y⟩:=ae u;match a,f,b,d with
 |none,f,b,_=>
  go_enter func260,ntmps260;go_wp2_with fail;refine(b _ (Kp.refl no w)).mono ?_;rintro e A⟨⟨rfl,c,i,q⟩,j⟩;have B:=ia i;go_wp2_with fail;refine B.mono ?_;rintro e C⟨⟨F,rfl,p,rfl,D,n⟩,o⟩;go_wp2;go_ret;rw[f];exact⟨⟨aj p,U,p,U,cj j.size,by rw[<-q];exact n⟩,j.trans o.any⟩
 |some c,f,b,d=>
  have q:=d c U;go_enter func260,ntmps260;go_wp2_with fail;refine(b _ (Kp.refl no w)).mono ?_;rintro e A⟨⟨rfl,i⟩,j⟩;have B:=sY i q.1 t (k:=0) (by rw[q.2.len];exact m) 12;go_wp2_with fail;refine B.bw ?_;rintro C⟨n,o⟩;obtain⟨D,F,p,-⟩:=n.gG;obtain⟨G,I⟩:=ae p;go_wp2;go_ret;rw[f];obtain⟨J,K⟩:=gW n Yk;exact⟨⟨U,g,J⟩,(j.trans o).trans (n.dV K)⟩
end
section
variable{E:ez}{g N:Nat}{w:World}{s:Bd}
theorem Done.ok{m:sU}(e:m= Yn f)(h:cU E g W f)(k:Kp (fy E.ro) w W):Done E w W m (Yq (Yv H))/\Kp (fy E.ro) w W:=by subst e;exact⟨⟨U,g,h⟩,k⟩
def Aq{P:Prop}(h:P:=by
 subst h;obtain⟨a,b,d,c⟩:=hf;exact⟨⟨f,U,a,b,Y,c⟩,k⟩):P:=h
theorem Done.bad{e:Int×Int}{m:sU}{f:Yx}(h:m= Ym e)(hf:gJ W X f e)(a:w.heap.size<=W.heap.size)(k:Kp (fy E.ro) w X):Done E w X m (Yq f)/\Kp (fy E.ro) w X:=by
 exact Aq
def eB{b:ez}{m:sU}(e:m=cZ s)(h:cU b g W f)(c:f.pos=s.pos)(k:Kp (fy E.ro) w W):Yy prog 211 #[aj b.bb] W λr a=> ∃v,r= Yq v/\Hid (Done E w a m (Yq v)/\Kp (fy E.ro) w a):=by
 refine(ia h).mono ?_;rintro _ a⟨⟨v,rfl,hF⟩,d⟩;rw[c]at hF;exact⟨v,U,Z (Done.bad e hF k.size (k.trans d.any))⟩
def Ou(h:cU E g w s)(z:Sz N s)(o:N<=500000)(a:s.af≠[]):Yy prog 262 #[aj E.bb] w λr b=>Done E w b (pz s) r/\Kp (fy E.ro) w b:=by
 have i:=z.st;go_enter func262,ntmps262;go_wp2_with fail;refine(pD h a z.bl Y).mono ?_;cases b:cX s with
 |none=>
  rintro e j⟨⟨rfl,c⟩,d⟩;have f:=h.dV d;go_wp2_with fail;refine(eB (m:=pz s) (by simp only[pz,b]) c U f).mono ?_;rintro _ _⟨v,rfl,k⟩;go_wp2;go_ret;exact k
 |some x=>
  obtain⟨u,p⟩:=x;rintro e j⟨⟨rfl,c⟩,d⟩;have f:=h.dV d;have k:=(oh z b).cd;go_wp2_with fail;refine(eT c ⟨26,0,0,0,0⟩ Y).bw ?_;rintro q⟨l,n⟩;go_wp2;go_ret;exact Done.ok (by simp only[pz,b];rfl) l (f.trans n)
def Ej{c:nt}{s:Bd}(a:s.af≠[])(h:bf c s= Yn (k,f)):k<s.af.length/\ ∃j,f={s with i:=j}:=by
 have b:=Vs.2 a;unfold bf at h;grind
def sZ(w:Yw)(t:UInt8):aq (w.alloc (Yl #[V Ys t.toNat] 5)) (Q (M ⟨w.heap.size,0,H⟩) 1 1) [t]:=aw.Cd (ai _ _) 1 1 U
def GG(h:cU E g w s)(z:Sz N s)(hN:N<=500000)(c:s.af≠[]):Yy prog 263 #[aj E.bb] w λr a=>Done E w a (fI s) r/\Kp (fy E.ro) w a:=by
 have J:=z.st;go_enter func263,ntmps263;go_wp2_with fail;refine(jf h c z.bl Y 127).mono ?_;cases d:cO s 127 with
 |none=>
  rintro e K⟨⟨rfl,o,f,a⟩,p⟩;have k:=h.dV p;go_wp2_with fail;refine(eB (m:=fI s) (by simp only[fI,d]) f a.pos k).mono ?_;rintro _ _⟨v,rfl,i⟩;go_wp2;go_ret;exact i
 |some o=>
  rintro e K⟨⟨rfl,f⟩,p⟩;have k:=h.dV p;have q:=fZ z d;have r:=eA d;have L:=q.st;have u:o.af≠[]:=by rw[<-Vs,r.len];exact Vs.2 c
  go_wp2_with fail;refine(pD f u q.bl Y).mono ?_;cases a:cX o with
  |none=>
   rintro e P⟨⟨rfl,j⟩,y⟩;have l:=k.trans (f.dV y);go_wp2_with fail;refine(eB (m:=fI s) (by simp only[fI,d,a]) j r.pos l).mono ?_;rintro _ _⟨v,rfl,i⟩;go_wp2;go_ret;exact i
  |some x=>
   obtain⟨t,G⟩:=x;rintro e P⟨⟨rfl,j⟩,y⟩;have l:=k.trans (f.dV y);have n:=oh q a;have I:=r.trans (ij a);have R:=n.st;have A:G.af≠[]:=by rw[<-Vs,I.len];exact Vs.2 c
   go_wp2_with fail;refine(jf j A n.bl Y t).mono ?_;cases b:cO G t with
   |none=>
    rintro e S⟨⟨rfl,T,B,C⟩,D⟩;have F:=l.trans (j.dV D);go_wp2_with fail;refine(eB (m:=fI s) (by simp only[fI,d,a,b]) B (I.trans C).pos F).mono ?_;rintro _ _⟨v,rfl,i⟩;go_wp2;go_ret;exact i
   |some T=>
    rintro e S⟨⟨rfl,B⟩,D⟩;have F:=l.trans (j.dV D);have v:=(fZ n b).st;have C:=(fZ n b).cd;go_wp2_with fail;refine(eT B ⟨27,0,0,0,0⟩ Y).bw ?_;rintro i⟨W,X⟩;go_wp2_with fail;refine(og (W.quiet ((Kp.refl no i).alloc (Yl #[V Ys t.toNat] 5))) (sZ i t) (by simp only;omega) Vc).bw ?_;rintro w5⟨h5,k8⟩;go_wp2;go_ret;exact Done.ok (by simp only[fI,d,a,b];rfl) h5 (((F.trans X).alloc _).trans k8)
def GH(h:cU E g w s)(z:Sz N s)(L:N<=500000)(l:s.af≠[])(b:UInt8)(a:b=12\/b=13):Yy prog 258 #[aj E.bb,V Ys b.toNat] w λr d=>Done E w d (iW E.c b s) r/\Kp (fy E.ro) w d:=by
 have c:iW E.c b s=iW E.c b s:=rfl;conv at c=>rhs;unfold iW
 go_enter func258,ntmps258;go_wp2_with fail;refine(nh h l z.bl).mono ?_;cases C:bf E.c s with
 |error e=>
  rintro r J⟨⟨f,rfl,d,rfl,hF⟩,u⟩;rw[C]at c;go_wp2;go_ret;exact Done.bad c ⟨d,U,hF⟩ cQ (h.jF u)
 |ok x=>
  obtain⟨k,i⟩:=x;rintro r J⟨⟨rfl,n⟩,u⟩;rw[C]at c;obtain⟨m,j,d⟩:=Ej l C;have f:Sz N i:=by rw[d];exact z.read j s.pos s.aR
  have o:i.af≠[]:=by rw[d];exact l
  have y:i.pos=s.pos:=by rw[d]
  have m:k<i.af.length:=by rw[d];exact m
  have p:=h.jF u;have A:=Z y;clear d u y;simp only at c;rcases a with a|a
  case' inl=>
   have D:((b.toNat:Int)==12)=true:=by rw[a];rfl
   have F:((b.toNat:Int)==13)=false:=by rw[a];rfl
   have e:(b==12)=true:=by rw[a];rfl
   rw[Va (by rw[a];decide),e]at c;clear a e
  case' inr=>
   have D:((b.toNat:Int)==12)=false:=by rw[a];rfl
   have F:((b.toNat:Int)==13)=true:=by rw[a];rfl
   have e:(b==12)=false:=by rw[a];rfl
   rw[Vi a,e]at c;clear a e;have q:=f.st;go_wp2_with fail;refine(jf n o f.bl Y 127).mono ?_;rcases hq2:cO i 127 with _|i
   .rintro r R⟨⟨rfl,S,t,G⟩,B⟩;have K:=p.trans (n.dV B);have P:=show iW E.c b s=cZ s by rw[c,hq2]
    clear c;go_wp2_with fail;refine(eB P t (G.pos.trans A) K).mono ?_;rintro _ _⟨v,rfl,I⟩;go_wp2;go_ret;exact I
   rintro r J⟨⟨rfl,t⟩,B⟩;replace p:=Z (p.trans (n.dV B));replace A:=Z ((eA hq2).pos.trans A);replace m:k<i.af.length:=by rw[(eA hq2).len];exact m
   replace f:=fZ f hq2;replace n:=t;rw[hq2]at c;clear hq2 o q B t
  all_goals
   change Hid _ at c;have q:=f.st;go_wp2_with fail;refine(pF n f.bl Y (k:=k) m (qD (f.wt k m).2.2.1)).mono ?_;cases e:dg i k with
   |none=>
    rintro r F⟨⟨rfl,G,B,y⟩,D⟩;have K:=p.trans D;go_wp2_with fail;refine(eB (c.trans (by simp[e])) B (y.trans A) K).mono ?_;rintro _ _⟨v,rfl,I⟩;go_wp2;go_ret;exact I
   |some G=>
    rintro r F⟨⟨rfl,B⟩,D⟩;have K:=Z (p.trans D);go_wp2_with fail;refine(sY B (jb f e).1 L (by rw[(jb f e).2.len];exact m) b).bw ?_;rintro w4⟨v,I⟩;obtain⟨P,R,t,-⟩:=v.gG;obtain⟨S,T⟩:=ae t;clear t;go_wp2;go_ret;obtain⟨W,X⟩:=gW v _;exact Done.ok (c.trans (by simp[e])) W ((K.trans I).trans (v.dV X))
end
section
variable{E:ez}{g N:Nat}{w:World}{s:Bd}
def cU.Ar(h:cU E g w s):∃a,w.heap[E.mb]?=M (rJ E a)/\E.bb≠E.rb/\E.mb≠E.rb/\E.mb≠E.bb:=by
 obtain⟨b,c,a,d,f,h⟩:=h;refine⟨a,h.mod,λe=>?_,λe=>?_,λe=>?_⟩
 .grind[bT.r3,bT.r1]
 .grind[bT.r2,bT.r1]
 grind[bT.r2,bT.r3]
def mY(x y:UInt8):((x.toNat:Int) !=(y.toNat:Int))= !(x==y):=by grind[lH]
def Gv{α:Type}(w w':Yw)(rb:Nat)(dv:Yx)(D:List UInt8)(val:α->Yx->Prop)(zero:Yx)(m:Except (Int×Int) (α×Nat))(v f:Yx):Prop:=
 match m with
 | Yn (x,j)=>val x v/\f= Yv H/\kC w' rb dv D j
 | Ym e=>v=zero/\gJ w w' f e
theorem oP.hO{d:Type}{w:Yw}{a:d->Yx->Prop}{m:Except (Int×Int) (d×Nat)}{r:Ending}(h:oP w W n u D a z m r):∃v f,r= Yq (Yu #[v,f])/\Gv w W n u D a z m v f:=by
 match m,h with
 | Yn (x,j),⟨v,b,c,i⟩=>exact⟨v,_,b,c,U,i⟩
 | Ym e,⟨f,j,b,c,i⟩=>exact⟨_,f,b,U,c⟩
def KO(h:cU E g w s)(z:Sz N s)(hN:N<=500000)(h0:s.af≠[])(c:UInt8):Yy prog 265 #[aj E.bb,V Ys c.toNat] w λr a=>Done E w a (eK E.c c s) r/\Kp (fy E.ro) w a:=by
 have h5:=z.st;have h6:=z.cd;have h7:=h.env.nl;obtain⟨h1,h2,B,h8⟩:=h.env.aZ.aJ;obtain⟨sv,kc,y,-⟩:=h.gG;obtain⟨-,-,R,-,-⟩:=h.Ar;simp only[eM]at y;rw[B]at y;have T:((c.toNat:Int) !=32)= !(c==32):=mY c 32;have C:((c.toNat:Int) !=33)= !(c==33):=mY c 33;have X:=Z y;obtain⟨S,l⟩:=bL (λa=>a.cell? ⟨E.bb,0,H⟩=M (aj E.rb)/\a.cell? ⟨E.bb,3,H⟩=M (Q h1 E.c.aZ.length h2):Yw->Prop);have D:∀W,Kp (one E.rb) w W->S W:=λW k=>by
  rw[l];have:=(ae (k.az X R)).1;exact⟨this 0,this 3⟩
 have h3:=Z l;clear y l;change Hid _ at B D;go_enter func265,ntmps265;go_wp2_with fail;refine rj 15 15 (S) ?hS λhS=>?_
 case hS=>exact D _ fL
 have l:=h3.out;subst l;refine tj 0 ?_;iterate 8 refine tn ?_
 refine oj 9 λK a=>?_
 refine sc (fM (h.quiet ((Kp.refl no w).drew)).rd E.c.aZ.length Y Y) ?_;rintro r w1⟨hg,k1⟩;obtain⟨v,f,rfl,F⟩:=hg.hO;have m:Kp (one E.rb) w w1:=((Kp.refl _ w).drew).trans k1;have W:=h.jF m;refine⟨_,U,a _ _ (D _ m) (λhS=>?_)⟩;clear a K;simp only[pS];refine tj 10 ?_;iterate 4 refine tn ?_
 refine dj ?_;clear hS hg;have b:eK E.c c s=eK E.c c s:=rfl;conv at b=>rhs;unfold eK
 cases hq:bp E.c.D E.c.aZ.length s.i with
 |error e=>
  rw[hq]at F b;obtain⟨rfl,hF⟩:=F;obtain⟨d,rfl,a⟩:=hF;change Hid _ at b;go_wp2;go_ret;exact Done.bad b ⟨d,U,a⟩ cQ W
 |ok x=>
  obtain⟨n,j⟩:=x;rw[hq]at F b;obtain⟨rfl,rfl,hr⟩:=F;have G:=h.read m hr;have hn:=(cz hq).1;have z0:Sz N {s with i:=j}:=z.read j s.pos s.aR;obtain⟨h9,k0⟩:=ae (m.az X R);obtain⟨a,o,k2,F,_,k3⟩:=G.env.aZ.get (show n<E.c.aZ.length by omega);rw[B.out]at F;cases F;simp only at b;generalize E.c.aZ.getD n 0=t at *;have k5:(n:Int)<E.c.aZ.length:=Y
  have L:=Z b;clear b hq hr k1 m hn;change Hid _ at W;replace G:=Z G;by_cases d:c=32
  .have p:(c==32)=true:=by simpa using d
   have e:(c==33)=false:=by rw[d];rfl
   have k:c≠33:=by rw[d];decide
   rw[p]at T;rw[e]at C;have b:=L.out;rw[Vi d]at b;simp only[Va k]at b;clear d p e k;change Hid _ at b;go_wp2_with fail;refine(eT G ⟨c,n,0,0,0⟩ (by simp only;omega)).bw ?_;rintro w2⟨u,I⟩;have P:=Z (W.trans I);clear I;replace u:=Z u;go_wp2_with fail;refine(og (u.quiet ((Kp.refl no w2).alloc (Yl #[V Ys t.toNat] 5))) (sZ w2 t) (by simp only;omega) Vc).bw ?_;rintro w3⟨q,A⟩;have K3:=Z ((P.alloc _).trans A);clear A;replace q:=Z q;go_wp2;go_ret;exact Done.ok b q K3
  .have p:(c==32)=false:=by simpa using d
   rw[p]at T;have b:=L.out;rw[Va d]at b;have J:=jf G h0 z.bl (by simp only;omega) t;have K:=λs2 (u:cO {s with i:=j} t=M s2)=>fZ z0 u
   generalize cO {s with i:=j} t=Q2 at *;have L:=Z b;clear b d p;replace J:=Z J;go_wp2_with fail;refine J.mono ?_;cases Q2 with
   |none=>
    rintro r w2⟨⟨rfl,s2,u,k⟩,I⟩;have P:=Z (W.trans (G.dV I));go_wp2_with fail;refine(eB L u k.pos P).mono ?_;rintro _ _⟨v,rfl,HD⟩;go_wp2;go_ret;exact HD
   |some s1=>
    rintro r w2⟨⟨rfl,u⟩,I⟩;have k6:=(K s1 U).st;have k7:=(K s1 U).cd;have P:=Z (W.trans (G.dV I));have HE:=Z (eT u ⟨c,n,0,0,0⟩ Y);clear u I K;by_cases k:c=33
    .have e:(c==33)=true:=by simpa using k
     rw[e]at C;have b:=L.out;simp only[Vi k]at b;clear k e;change Hid _ at b;go_wp2_with fail;refine HE.bw ?_;rintro w3⟨q,A⟩;have K3:=Z (P.trans A);clear A;replace q:=Z q;go_wp2;go_ret;exact Done.ok b q K3
    .have e:(c==33)=false:=by simpa using k
     rw[e]at C;have b:=L.out;simp only[Va k]at b;clear k e;change Hid _ at b;go_wp2_with fail;refine HE.bw ?_;rintro w3⟨q,A⟩;have K3:=Z (P.trans A);clear A;replace q:=Z q;go_wp2_with fail;refine(og (q.quiet ((Kp.refl no w3).alloc (Yl #[V Ys t.toNat] 5))) (sZ w3 t) (by simp only;omega) Vc).bw ?_;rintro w4⟨h4,k4⟩;have K4:=Z ((K3.alloc _).trans k4);clear k4;replace h4:=Z h4;go_wp2;go_ret;exact Done.ok b h4 K4
end
section
variable{E:ez}{g N:Nat}{w:World}{s:Bd}
def cU.acB(h:cU E g w s)(c:E.ro b):b≠E.bb:=by
 obtain⟨a,d,e,f,i,h⟩:=h;grind[bT.ro,bT.r3]
def Ov(h:cU E g w s)(z:Sz N s)(hN:N<=500000)(T:s.af≠[]):Yy prog 261 #[aj E.bb] w λr a=>Done E w a (py E.c s) r/\Kp (fy E.ro) w a:=by
 have h7:=z.st;have h8:=h.env.nf;have X:=h.env.res;obtain⟨h0,h1,C,h9,-⟩:=h.env.funcs;obtain⟨sv,kc,D,-⟩:=h.gG;obtain⟨cv,d,F,G,k0⟩:=h.Ar;simp only[rJ]at d;rw[C]at d;obtain⟨S,l⟩:=bL (λa=>a.cell? ⟨E.bb,0,H⟩=M (aj E.rb)/\a.cell? ⟨E.bb,1,H⟩=M (aj E.mb)/\a.cell? ⟨E.mb,0,H⟩=M (Q h0 E.c.funcs.length h1):Yw->Prop);have I:∀W,Kp (one E.rb) w W->S W:=λW k=>by
  rw[l];have:=(ae (k.az D F)).1;exact⟨this 0,this 1,(ae (k.az d G)).1 0⟩
 go_enter func261,ntmps261;go_wp2_with fail;refine rj 18 18 (S) ?hS λhS=>?_
 case hS=>exact I _ fL
 have l:=l;subst l;refine tj 0 ?_;iterate 11 refine tn ?_
 refine oj 12 λK a=>?_
 refine sc (fM (h.quiet ((Kp.refl no w).drew)).rd E.c.funcs.length Y Y) ?_;rintro r B⟨hg,k1⟩;obtain⟨v,f,rfl,m⟩:=hg.hO;have c:=((Kp.refl _ w).drew).trans k1;have W:=h.jF c;refine⟨_,U,a _ _ (I _ c) (λhS=>?_)⟩;simp only[pS];refine tj 13 ?_;iterate 4 refine tn ?_
 refine dj ?_;have k:py E.c s=py E.c s:=rfl;conv at k=>rhs;unfold py
 cases hq:bp E.c.D E.c.funcs.length s.i with
 |error e=>
  rw[hq]at m k;obtain⟨rfl,b,rfl,a⟩:=m;change Hid _ at k;go_wp2;go_ret;exact Done.bad k ⟨b,U,a⟩ cQ W
 |ok x=>
  obtain⟨n,j⟩:=x;rw[hq]at m k;obtain⟨rfl,rfl,hr⟩:=m;have J:=h.read c hr;have L:=(cz hq).1;have z0:=z.read j s.pos s.aR;obtain⟨k2,k3⟩:=ae (c.az D F);obtain⟨k5,k6⟩:=ae (c.az d G);have h2:=X n Y;obtain⟨ad,k7,m,_,h3⟩:=J.env.funcs;obtain⟨a,o,pv,rv,rfl,-,k8,k9,p,h4,q,h5⟩:=h3 n Y;rw[C]at m;cases m;simp only at k;generalize E.c.funcs.getD n ([],[])=ty at *;obtain⟨P,rs⟩:=ty;have w0:(n:Int)<E.c.funcs.length:=Y
  simp only at k p q h2;obtain⟨t,u,rfl,-⟩:=p.aJ;obtain⟨y,A,rfl,-⟩:=q.aJ;have R:=Z (J.guard ((Kp.refl no B).alloc (Yl #[Q t P.length u,Q y rs.length A] 138)) (one B.heap.size) (λb (hb:b=_)=>by subst hb;simp));go_wp2_with fail;refine(pE R T z.bl (by simp only;omega) (p.kp ((Kp.refl no B).alloc _) bW) Y (λb hb=>J.acB (h4 b hb))).mono ?_;cases e:bQ {s with i:=j} P with
  |none=>
   rintro r w3⟨⟨rfl,s2,k4,h6⟩,b⟩;have K:=(W.alloc _).trans (R.dV b).cV;go_wp2_with fail;refine(eB (k.trans (by rw[e];rfl)) k4 h6.pos K).mono ?_;rintro _ _⟨v,rfl,HD⟩;go_wp2;go_ret;exact HD
  |some s1=>
   rintro r w3⟨⟨rfl,w1⟩,b⟩;have w2:=(jO z0 e).st;have w4:=(jO z0 e).cd;have K3:=Z (Kp.trans (Kp.alloc (Kp.refl (fy (E.plus (one B.heap.size)).ro) B) (Yl #[Q t P.length u,Q y rs.length A] 138)) (R.dV b));have K:=Z ((R.dV b).az (ai B (Yl #[Q t P.length u,Q y rs.length A] 138)) (λL=>L (Yp U)));go_wp2_with fail;refine(eT w1 ⟨16,n,0,0,0⟩ Y).bw ?_;rintro e0⟨w5,k4⟩;obtain⟨w6,w7⟩:=ae (k4.az K (λL=>L (Yp U)));have K4:=Z (K3.trans k4);have h6:=q.ro h5 (K4.cV);have HP:=Z (og w5 h6 (by simp only;omega) Y);go_wp2_with fail;refine HP.bw ?_;rintro e1⟨w8,w9⟩;have K5:=Z (K4.trans w9);have H5:=Z (w8.cV (J.env.kp K5.cV));go_wp2;go_ret;exact Done.ok (k.trans (by rw[e];rfl)) H5 (W.trans K5.cV)
end
def td(D:List UInt8)(i:Nat):Except (Int×Int) (Nat×Nat):=
 match qY D i with
 | Ym e=> Ym e
 | Yn (n,j)=> Yn ((n%4294967296).toNat,j)
def th(D:List UInt8)(i:Nat):Except (Int×Int) (Nat×Nat):=
 match qZ D i with
 | Ym e=> Ym e
 | Yn (n,j)=> Yn ((n%18446744073709551616).toNat,j)
def Ow(n:Int):IntKind.u32.wrap n=((n%4294967296).toNat:Int):=by
 grind[IntKind.wrap,IntKind.signed,IntKind.bits]
def Ox(n:Int):IntKind.u64.wrap n=((n%18446744073709551616).toNat:Int):=by
 grind[IntKind.wrap,IntKind.signed,IntKind.bits]
def vN(h:kC W k u D i):
  Yy prog 140 #[aj k,V Ys 127] W λr a=>oP W a k u D (λ(n:Nat) v=>v= V Yr n) (V Yr 0) (td D i) r/\Kp (one k) W a:=by
 have b:td D i=(match qY D i with | Ym e=> Ym e| Yn (n,j)=> Yn ((n%4294967296).toNat,j)):=rfl;generalize td D i=R at *;have p:=Q8 h;have c:=λn j=>zD (D:=D) (i:=i) (n:=n) (j:=j)
 generalize qY D i=a at *;have d:=Z p;match a,b,d,c with
 | Ym e,b,d,_=>
  change Hid _ at b;go_enter func140,ntmps140;go_wp2_with fail;refine d.mono ?_;rintro r q⟨⟨s,j,rfl,⟨m,rfl,l,f⟩,g⟩,o⟩;change Hid _ at g f;go_wp2;go_ret2;rw[b.out];exact⟨⟨aj m,j,U,⟨m,U,l,f⟩,g⟩,o⟩
 | Yn (n,j),b,d,c=>
  have e1:=Ow n;have e:(n%4294967296).toNat<4294967296:=Y
  simp only at b;generalize(n%4294967296).toNat=m at *;go_enter func140,ntmps140;go_wp2_with fail;refine d.mono ?_;rintro r q⟨⟨v,rfl,rfl,g⟩,o⟩;go_wp2;go_ret2;rw[b];exact⟨⟨_,U,U,g⟩,o⟩
def vO(h:kC W k u D i):
  Yy prog 140 #[aj k,V Ys 126] W λr a=>oP W a k u D (λ(n:Nat) v=>v= V Yr n) (V Yr 0) (th D i) r/\Kp (one k) W a:=by
 have b:th D i=(match qZ D i with | Ym e=> Ym e| Yn (n,j)=> Yn ((n%18446744073709551616).toNat,j)):=rfl;generalize th D i=R at *;have p:=Q9 h;have c:=λn j=>zF (D:=D) (i:=i) (n:=n) (j:=j)
 generalize qZ D i=a at *;have d:=Z p;match a,b,d,c with
 | Ym e,b,d,_=>
  change Hid _ at b;go_enter func140,ntmps140;go_wp2_with fail;refine d.mono ?_;rintro r q⟨⟨s,j,rfl,⟨m,rfl,l,f⟩,g⟩,o⟩;change Hid _ at g f;go_wp2;go_ret2;rw[b.out];exact⟨⟨aj m,j,U,⟨m,U,l,f⟩,g⟩,o⟩
 | Yn (n,j),b,d,c=>
  have e1:=Ox n;simp only at b;generalize(n%18446744073709551616).toNat=m at *;go_enter func140,ntmps140;go_wp2_with fail;refine d.mono ?_;rintro r q⟨⟨v,rfl,rfl,g⟩,o⟩;go_wp2;go_ret2;rw[b];exact⟨⟨_,U,U,g⟩,o⟩
def Oy(D:List UInt8)(i:Nat):eh D 1 i=UM D i:=rfl
def Oz(D:List UInt8)(i:Nat):eh D 2 i=td D i:=rfl
def OA(D:List UInt8)(i:Nat):eh D 3 i=th D i:=rfl
def OB(D:List UInt8)(i:Nat):eh D 0 i= Yn (0,i):=rfl
section
variable{E:ez}{g N:Nat}{w:World}{s:Bd}
def UK(E:ez)(g:Nat)(w w':Yw)(s:Bd)(m:Except (Int×Int) (Nat×Nat))(r:Ending):Prop:=
 match m with
 | Yn (n,j)=>r= Yq (Yu #[V Yr n,Yv H])/\cU E g w' {s with i:=j}
 | Ym e=> ∃zv fv,r= Yq (Yu #[zv,fv])/\gJ w w' fv e
def GI(h:cU E g w s)(b:Nat)(y:b=0\/b=1\/b=2\/b=3):
  Yy prog 266 #[aj E.bb,V O b] w λr a=>UK E g w a s (eh E.c.D b s.i) r/\Kp (one E.rb) w a:=by
 obtain⟨z,A,u,-⟩:=h.gG;obtain⟨B,C⟩:=ae u;have o:=h.rd;rcases y with rfl |rfl |rfl |rfl
 .rw[OB];go_enter func266,ntmps266;go_wp2;go_ret2;exact⟨⟨U,h⟩,iR⟩
 .rw[Oy];have c:=M4 o;have p:=λn j=>DB (D:=E.c.D) (i:=s.i) (n:=n) (j:=j)
  generalize UM E.c.D s.i=a at *;match a,c,p with
  | Ym e,c,_=>
   go_enter func266,ntmps266;go_wp2_with fail;refine c.mono ?_;rintro r q⟨⟨x,j,rfl,⟨l,rfl,f,k⟩,m⟩,d⟩;go_wp2;go_ret2;exact⟨⟨_,aj l,U,l,U,f,k⟩,d⟩
  | Yn (n,j),c,p=>
   have F:=(p n j U).1;go_enter func266,ntmps266;go_wp2_with fail;refine c.mono ?_;rintro r q⟨⟨v,rfl,rfl,m⟩,d⟩;have t:=h.read d m;go_wp2;go_ret2;exact⟨⟨U,t⟩,d⟩
 .rw[Oz];have c:=vN o;generalize td E.c.D s.i=a at *;match a,c with
  | Ym e,c=>
   go_enter func266,ntmps266;go_wp2_with fail;refine c.mono ?_;rintro r q⟨⟨x,j,rfl,⟨l,rfl,f,k⟩,m⟩,d⟩;go_wp2;go_ret2;exact⟨⟨_,aj l,U,l,U,f,k⟩,d⟩
  | Yn (n,j),c=>
   go_enter func266,ntmps266;go_wp2_with fail;refine c.mono ?_;rintro r q⟨⟨v,rfl,rfl,m⟩,d⟩;have t:=Z (h.read d m);go_wp2;go_ret2;exact⟨⟨U,t⟩,d⟩
 .rw[OA];have c:=vO o;generalize th E.c.D s.i=a at *;match a,c with
  | Ym e,c=>
   go_enter func266,ntmps266;go_wp2_with fail;refine c.mono ?_;rintro r q⟨⟨x,j,rfl,⟨l,rfl,f,k⟩,m⟩,d⟩;go_wp2;go_ret2;exact⟨⟨_,aj l,U,l,U,f,k⟩,d⟩
  | Yn (n,j),c=>
   go_enter func266,ntmps266;go_wp2_with fail;refine c.mono ?_;rintro r q⟨⟨v,rfl,rfl,m⟩,d⟩;have t:=Z (h.read d m);go_wp2;go_ret2;exact⟨⟨U,t⟩,d⟩
end
def fz(r:mQ):List Value:=[V Ys r.fr.toNat,V Ys r.upto.toNat,V O r.bM,.string ⟨r.takes.toArray⟩,.string ⟨r.gives.toArray⟩]
theorem UL(r:mQ):(fz r).length=5:=rfl
def nG:mQ:=⟨0,0,0,[],[]⟩
def eN(w:Yw)(ro:Nat->Prop):Prop:= ∃a o cap,w.cell? ⟨1,0,H⟩=M (Q (M ⟨a,o,H⟩) 28 cap)/\28<=cap/\ro 1/\ro a/\ ∀k,k<28-> ∀j,j<5->w.cell? ⟨a,o+k*5+j,H⟩=(fz (gM.getD k nG))[j]?
theorem eN.kp{ro:Nat->Prop}(h:eN W ro)(k:Kp (fy ro) W X):eN X ro:=by
 obtain⟨a,o,b,d,e,c,f,g⟩:=h;refine⟨a,o,b,k.cell d (λj=>j c),e,c,f,λj l i hi=>?_⟩;have m:=g j l i hi;have n:∃v,(fz (gM.getD j nG))[i]?=M v:=by rw[Vj (by grind[UL])];simp
 grind[Kp.cell]
def RR(a:UInt8):eu a=(gM.drop 0).find? λr=>decide (r.fr<=a)&&decide (a<=r.upto):=rfl
def mR(r:mQ):Value:=.agg (fz r).toArray
def UN(m:Option mQ)(r:Ending):Prop:=
 match m with
 |some x=>r= Yq (Yu #[mR x,Yt Yk])
 |none=>r= Yq (Yu #[mR nG,Yt Yj])
def RS(w:Yw)(b:Nat)(v0 v1 v2 v3 v4:Yx):World:=((((w.setCell ⟨b,0,H⟩ v0).setCell ⟨b,1,H⟩ v1).setCell ⟨b,2,H⟩ v2).setCell ⟨b,3,H⟩ v3).setCell ⟨b,4,H⟩ v4
def Ek{a3 a4:Yx}(h:W.heap[b]?=M (Yl #[v,u,z,a3,a4] T))(a c d e f:Yx):(RS W b a c d e f).heap[b]?=M (Yl #[a,c,d,e,f] T):=
 heap_setCell (heap_setCell (heap_setCell (heap_setCell (heap_setCell h a) c) d) e) f
def Ja{w:Yw}(a:w.heap.size<=b)(k:Kp no w W)(c d e f g:Yx):Kp no w (RS W b c d e f g):=
 ((((k.cq a _ _).cq a _ _).cq a _ _).cq a _ _).cq a _ _
def Au{P:Prop}(h:P:=by
 go_wp2;go_roundw;case rel=>exact⟨k+1,Y,by go_num,HK.out.alloc _,HF.out⟩
 case measure=>simp[intOf];omega):P:=h
def OC{w:Yw}(h:eN w S)(b:UInt8):
  Yy prog 210 #[V Ys b.toNat] w λr a=>UN (eu b) r/\Kp no w a:=by
 have p:=RR b;generalize eu b=R at *;obtain⟨a,o,C,g,i,-,-,A⟩:=h;have q:=World.block_lt_of_cell? w _ g;simp only at q;change Hid _ at A p;go_enter func210,ntmps210;go_wp2;go_loopw [8] (λc wr=> ∃k:Nat,k<=28/\c= V O k/\Kp no (w.alloc (Yl #[V Ys 0,V Ys 0,V O 0,.string ⟨#[]⟩,.string ⟨#[]⟩] 329)) wr/\(gM.drop 0).find? (λr=>decide (r.fr<=b)&&decide (b<=r.upto))=(gM.drop k).find? (λr=>decide (r.fr<=b)&&decide (b<=r.upto))) (λc _=>28 - (intOf c).toNat);case atStart=>exact⟨0,Y,U,iR,U⟩
 case round=>
  obtain⟨k,G,rfl,l,m⟩:=hrel;have HK:=Z l;have HF:=Z m;clear l m;by_cases s:k<28
  .have c:∀j v,j<5->(fz (gM.getD k nG))[j]?=M v->wr.cell? ⟨a,o+k*5+j,H⟩=M v:=λj v d e=>HK.aY (((Kp.refl no w).alloc _).aY ((A k s j d).trans e))
   have n:gM.drop k=gM.getD k nG::gM.drop (k+1):=by
    have d:gM.length=28:=rfl;rw[VY Y];simp[List.getD,Vj (show k<gM.length by omega)]
   have hF:=HF.out;rw[n,List.find?_cons]at hF;generalize gM.getD k nG=rw at *;obtain⟨j,up,t,tk,gv⟩:=rw;have B:=c 0 _ Vb U;rw[VU]at B;have c1:=c 1 _ Vb U;have c2:=c 2 _ Vb U;have c3:=c 3 _ Vb U;have c4:=c 4 _ Vb U;clear c n HF;have D:w.heap.size<wr.heap.size:=by have:=HK.size;simp at this;omega
   have E:a<wr.heap.size:=World.block_lt_of_cell? wr _ B;have d:=HK.az (ai w (Yl #[V Ys 0,V Ys 0,V O 0,.string ⟨#[]⟩,.string ⟨#[]⟩] 329)) id;change Hid _ at d;obtain⟨u,x⟩:=ae (HK.az (ai w (Yl #[V Ys 0,V Ys 0,V O 0,.string ⟨#[]⟩,.string ⟨#[]⟩] 329)) id);simp only at hF;have F:=size_setCell;by_cases g:j<=b
   .have y:(j.toNat:Int)<=(b.toNat:Int):=cj (Wz.1 g);by_cases i:b<=up
    .have z:(b.toNat:Int)<=(up.toNat:Int):=cj (Wz.1 i);simp only[g,i,Yg,Bool.and_self]at hF;have HF:=Z hF;clear hF g i;go_wp2;have f:=(ae (ah (o:= Yl #[V Ys j.toNat,V Ys up.toNat,V O t,.string ⟨tk.toArray⟩,.string ⟨gv.toArray⟩] 329) (Ek d (V Ys j.toNat) (V Ys up.toNat) (V O t) (.string ⟨tk.toArray⟩) (.string ⟨gv.toArray⟩)))).1;simp only[RS]at f;refine bodyPost_ret (v:= Yu #[mR ⟨j,up,t,tk,gv⟩,Yt Yk]) (by simp[results,results210,go_sem,f,mR,fz]) U ?_;rw[p.out,HF.out];exact⟨U,(Ja (w:=w) cQ (Kp.trans ((Kp.refl no w).alloc _) HK) _ _ _ _ _).alloc _⟩
    .have z: ¬((b.toNat:Int)<=(up.toNat:Int)):=by intro e;exact i (Wz.2 Y)
     simp only[g,i,Yg,decide_false,Bool.and_false]at hF;have HF:=Z hF;clear hF g i;exact Au
   .have y: ¬((j.toNat:Int)<=(b.toNat:Int)):=by intro e;exact g (Wz.2 Y)
    simp only[g,decide_false,Bool.false_and]at hF;have HF:=Z hF;clear hF g;exact Au
  .obtain rfl :k=28:=Y
   have hF:=HF.out;rw[show(gM.drop 28).find? (λr=>decide (r.fr<=b)&&decide (b<=r.upto))=H from U]at hF;have d:=HK.az (ai w (Yl #[V Ys 0,V Ys 0,V O 0,.string ⟨#[]⟩,.string ⟨#[]⟩] 329)) id;change Hid _ at d;obtain⟨u,x⟩:=ae (HK.az (ai w (Yl #[V Ys 0,V Ys 0,V O 0,.string ⟨#[]⟩,.string ⟨#[]⟩] 329)) id);clear HF;change Hid _ at hF;go_wp2;have f:=(ae (Ek d (V Ys 0) (V Ys 0) (V O 0) (.string ⟨#[]⟩) (.string ⟨#[]⟩))).1;simp only[RS]at f;refine bodyPost_ret (v:= Yu #[mR nG,Yt Yj]) (by simp[results,results210,go_sem,f,mR,fz,nG]) U ?_;rw[p.out,hF.out];exact⟨U,Ja (w:=w) cQ (Kp.trans ((Kp.refl no w).alloc _) HK) _ _ _ _ _⟩
def EB(w:Yw)(l:List UInt8):∃cap b,(convert 9 25 (.string ⟨l.toArray⟩)).run prog w=.ok (Q (M ⟨w.heap.size,0,H⟩) l.length cap) b/\Kp no w b/\w.heap.size<b.heap.size/\aq b (Q (M ⟨w.heap.size,0,H⟩) l.length cap) l:=by
 have c:(⟨l.toArray⟩:ByteArray).size=l.length:=Vg
 refine⟨grownCap w l.length 0 5,Lib.bytesWorld w 5 ⟨l.toArray⟩,?_,?_,?_,?_⟩
 .grind[Lib.run_convert_string_bytes,underlying9,underlying25,underlying5]
 .exact⟨U,U,U,by grind[Lib.bytesWorld_size],λk b _=>Lib.bytesWorld_at_old _ _ _ _ b⟩
 .grind[Lib.bytesWorld_size]
 .have :=aq.mk (w:=Lib.bytesWorld w 5 ⟨l.toArray⟩) (a:=w.heap.size) (o:=0) (cap:=grownCap w l.length 0 5) (l:=l) (grownCap_ge _ _ _ _) (λk b=>by
   simp_all[Lib.bytesWorld_cell])
  exact this
section
variable{E:ez}{g N:Nat}{w:World}{s:Bd}
def GV(h:cU E g w s)(z:Sz N s)(hN:N<=500000)(p:s.af≠[])(c:UInt8)(r:mQ)(d:r.bM=0\/r.bM=1\/r.bM=2\/r.bM=3)(S:r.takes.length<=2)(T:r.gives.length<=1):
  Yy prog 213 #[aj E.bb,V Ys c.toNat,mR r] w λx a=>Done E w a (iZ E.c c r s) x/\Kp (fy E.ro) w a:=by
 have D:iZ E.c c r s=iZ E.c c r s:=rfl;conv at D=>rhs;unfold iZ
 generalize iZ E.c c r s=R at *;obtain⟨F,up,k,tk,gv⟩:=r;simp only at *;have X:=z.st;have q:=Z (h.guard ((Kp.refl no w).alloc (Yl #[V Ys F.toNat,V Ys up.toNat,V O k,.string ⟨tk.toArray⟩,.string ⟨gv.toArray⟩] 329)) (one w.heap.size) (by intro b d;cases d;simp));have a:=Z D;simp only[mR,fz];go_enter func213,ntmps213;go_wp2_with fail;refine(GI q k d).mono ?_;cases G:eh E.c.D k s.i with
 |error e=>
  rintro x t⟨⟨o,u,rfl,m,rfl,f,j⟩,l⟩;have n:=Z j;go_wp2;go_ret;exact Done.bad (W:=w) (a.trans (by rw[G])) ⟨m,U,by simp at f;omega,n⟩ cQ (((Kp.refl (fy E.ro) w).alloc _).trans (q.jF l).cV)
 |ok x=>
  obtain⟨n,j⟩:=x;rintro x t⟨⟨rfl,m⟩,l⟩;replace a:=Z (a.trans (by rw[G]));have I:=z.read j s.pos s.aR;have f:=l.az (ai w (Yl #[V Ys F.toNat,V Ys up.toNat,V O k,.string ⟨tk.toArray⟩,.string ⟨gv.toArray⟩] 329)) (λe=>by have:=au h.rd.az;change w.heap.size=E.rb at e;omega);obtain⟨h0,h1⟩:=ae f;obtain⟨h2,w2,h3,u,h4,y⟩:=EB t tk;have A:t.heap.size≠E.bb:=by obtain⟨sv,kc,h5,-⟩:=m.gG;grind
  have e:=Z (m.quiet u);have HT:=Z (pE e p z.bl Ve y Y (λb d=>by cases d;exact A));have B:=Z (u.az f id);have J:=Z (((((Kp.refl (fy E.ro) w).alloc _).trans (q.jF l).cV)).trans u.any);go_wp2_with fail;refine HT.mono ?_;cases b:bQ {s with i:=j} tk with
  |none=>
   rintro x w3⟨⟨rfl,s2,m,C⟩,o⟩;have K:=C.pos;have L:=Z (J.trans (e.dV o).cV);replace a:=Z (a.trans (show _=cZ s by grind));go_wp2_with fail;refine(eB a m K L).mono ?_;rintro _ _⟨v,rfl,P⟩;go_wp2;go_ret;exact P
  |some s1=>
   rintro x w3⟨⟨rfl,h6⟩,o⟩;have h7:=(jO I b).st;have h8:=(jO I b).cd;have v:=Z ((e.dV o).az B (λC=>C (Yp U)));have K3:=Z (J.trans (e.dV o).cV);go_wp2_with fail;refine(eT h6 ⟨c,n,0,0,0⟩ Y).bw ?_;rintro w4⟨h9,K⟩;obtain⟨k0,k1⟩:=ae (K.az v (λC=>C (Yp U)));have K4:=Z (K3.trans K.cV);obtain⟨k2,w5,k3,L,k4,C⟩:=EB w4 gv;have HP:=Z (og (h9.quiet L) C Ve Y);go_wp2_with fail;refine HP.bw ?_;rintro w6⟨k5,k6⟩;have P:=Z ((K4.trans L.any).trans k6.cV);go_wp2;go_ret;exact Done.ok (a.trans (by simp only[b];rfl)) (k5.cV (h.env.kp P)) P
end
def GX(g:Nat)(l:List Nat):List Value:=l.map λk=> Yv (M ⟨g,k*5,H⟩)
def ya(g:Nat)(l:List Nat)(a:k<l.length):(GX g l)[k]?=M (Yv (M ⟨g,l.getD k 0*5,H⟩)):=by
 grind[GX]
def O0{p:Nat->Bool}(l:List Nat)(k:Nat)(a:k<l.length):(l.take (k+1)).all p=((l.take k).all p&&p (l.getD k 0)):=by
 grind[List.take_add_one]
def aq.CF(h:aq W v l):∃b a,v= Q b l.length a/\l.length<=a:=h.aJ
section
variable{E:ez}{g N:Nat}{w:World}{s:Bd}
def Ld(h:cU E g w s){gv:Yx}{l:List Nat}(z:aw w gv 1 l.length (GX g l))(F:∀k,k<l.length->l.getD k 0<s.af.length)(K:l.length<=1000):
  df 285 #[gv] w (Yt (jN s l)) λn=>Kp no w n:=by
 have G:jN s l=(l.take l.length).all (λk=>aO (s.bk k)==aO (s.bk (l.getD 0 0))):=by rw[Wh];rfl
 generalize jN s l=R at *;obtain⟨ad,L,y,S⟩:=z.aJ;have A:=λW (j:Kp no w W) q (I:q<s.af.length)=>jI (h.quiet j) I
 subst y;go_enter func285,ntmps285;go_wp2;go_loopw [7] (λa wr=> ∃k:Nat,k<=l.length/\a= V O k/\Kp no w wr/\(l.take k).all (λk=>aO (s.bk k)==aO (s.bk (l.getD 0 0)))=Yk) (λa _=>l.length - (intOf a).toNat);case atStart=>exact⟨0,Y,U,iR,U⟩
 case round=>
  obtain⟨k,hk,rfl,b,r⟩:=hrel;by_cases f:k<l.length
  .obtain⟨a,o,T,y,_,X⟩:=aw.get (z.kp b bW) (ya g l f);obtain⟨a2,o2,h0,i,_,B⟩:=aw.get (z.kp b bW) (ya g l (show 0<l.length by omega));simp only[Vz]at y i;obtain⟨rfl,-,rfl⟩:=y;simp only[Vu,Xv,WQ,true_and]at i;obtain⟨⟨rfl,rfl⟩,rfl⟩:=i;rw[VU]at B;have I:=F k f;have h1:=F 0 Y;have c:=O0 (p:=λk=>aO (s.bk k)==aO (s.bk (l.getD 0 0))) l k f;rw[r]at c;simp only[Bool.true_and]at c;generalize l.getD k 0=q at *;generalize h2:l.getD 0 0=d at *;have h3:(0:Int)<(l.length:Int):=Y
   have h4:0<l.length:=Y
   have t:=λW (j:Kp no w W) p (u:p=q\/p=d)=>A W j p (by rcases u with e|e<;>rw[e]<;>assumption)
   generalize u:(aO (s.bk q)==aO (s.bk d))=W at *;cases W
   .go_wp2_with fail;go_region_held3 (λn=>n.cell? ⟨a,o,H⟩=M (Yv (M ⟨g,d*5,H⟩))) (go_keep) (first |(go_at_call 288;refine(t wr.drew (b.drew) _ (by first |exact Yo U |exact Yp U)).mono ?_;rintro e w1⟨⟨v1,rfl,j,-⟩,rfl⟩;obtain⟨C,D,rfl,-⟩:=aq.CF j)|(go_at_call 287;refine(fq (l1:=aO (s.bk q)) (l2:=aO (s.bk d)) (by assumption) (by assumption)).mono ?_;rintro e w3⟨rfl,rfl⟩;rw[u]));all_goals
     go_wp2;go_ret;refine⟨?_,b.drew⟩;rw[G];have hf:(l.take l.length).all (λk=>aO (s.bk k)==aO (s.bk d))=false:=by
      rw[Wh];refine Bool.eq_false_iff.2 (λe=>?_);have J:(l.take (k+1)).all (λk=>aO (s.bk k)==aO (s.bk d))=true:=Xl.2 (λx hx=>Xl.1 e x (XY hx));rw[c]at J;cases J
     rw[hf];rfl
   .go_wp2_with fail;go_region_held3 (λn=>n.cell? ⟨a,o,H⟩=M (Yv (M ⟨g,d*5,H⟩))) (go_keep) (first |(go_at_call 288;refine(t wr.drew (b.drew) _ (by first |exact Yo U |exact Yp U)).mono ?_;rintro e w1⟨⟨v1,rfl,j,-⟩,rfl⟩;obtain⟨C,D,rfl,-⟩:=aq.CF j)|(go_at_call 287;refine(fq (l1:=aO (s.bk q)) (l2:=aO (s.bk d)) (by assumption) (by assumption)).mono ?_;rintro e w3⟨rfl,rfl⟩;rw[u]));all_goals
     go_wp2;go_roundw;case rel=>exact⟨k+1,Y,by go_num,b.drew,c⟩
     case measure=>simp[intOf];omega
  .obtain rfl :k=l.length:=Y
   go_wp2;go_ret;exact⟨by rw[G,r];rfl,b⟩
end
section
variable{E:ez}{g N:Nat}{w:World}{s:Bd}
def Jb{d:Nat->Nat}{q:List uz}(h:bT E g w s d v u k q){f:Option Addr}(o:v=.slice f s.stack.length i)(D:n<=s.stack.length)(m:Kp no w W):
  cU E g (W.setCell ⟨E.bb,4,none⟩ (.slice f n i)) {s with stack:=s.stack.take n}/\Kp (one E.bb) w (W.setCell ⟨E.bb,4,none⟩ (.slice f n i)):=by
 subst o;have t:Kp (λb=>(λr=>r=3\/r=4) (d b)) w (W.setCell ⟨E.bb,4,none⟩ (.slice f n i)):=Kp.bE m.any (.inl h.r3) 4 _;have p:=m.az h.body id;refine⟨⟨d,_,u,k,q,h.sJ (l:=s.stack.take n) t (heap_setCell p _) ?_ (λb j=>h.r4 b (by cases f with |none=>cases j|some a=>exact j))⟩,Kp.bK m.any 4 _⟩;have x:(W.setCell ⟨E.bb,4,none⟩ (.slice f n i)).ownsRow E.B 5 1 (.slice f s.stack.length i) s.stack.length (s.stack.map λc=>.int .u8 c.toNat):=
  ((Kp.refl (one E.bb) W).bK 4 _).own (m.own h.stack bW) (λb j (e:b=E.bb)=>by subst e;have:=h.r4 _ j;rw[h.r3]at this;cases this)
 have a:(s.stack.take n).length=n:=Vd
 obtain⟨F,⟨r,G⟩|⟨y,z,b,A,j,B,I,C,c,J⟩⟩:=x
 .simp only[Vz]at r;obtain⟨rfl,-,rfl⟩:=r;have e:n=0:=Y
  subst e;exact⟨Vc,.inl ⟨Vc,Vc⟩⟩
 .cases A;refine⟨Vc,.inr ⟨y,i,b,by rw[a],j,B,Y,C,c,?_⟩⟩;grind[List.map_take]
def OD{c:Nat->Nat}{f:List uz}(h:bT E g w s c u z n f)(D:k<s.af.length)(d:Nat):
  cU E g (w.setCell ⟨g,k*5,H⟩ (V O d)) {s with af:=s.af.set k {s.bk k with bq:=d}}/\Kp (one g) w (w.setCell ⟨g,k*5,H⟩ (V O d)):=by
 obtain⟨p,t,A,-⟩:=h.bk D;have a:Kp (λb=>(λr=>r=5) (c b)) w (w.setCell ⟨g,k*5,H⟩ (V O d)):=Kp.bE (S:=λb=>(λr=>r=5) (c b)) (Kp.refl _ w) (b:=g) h.r5 _ _;have B:=(h.af.stored (k*5+0) (V O d)).1;have C:(f.flatMap fH).set (k*5+0) (V O d)=(f.set k ({s.bk k with bq:=d},p,t)).flatMap fH:=pj DU f k 0 Vb _ _ _ A U;rw[C]at B;have F:k<f.length:=by
  grind
 have e:∀(j:Nat) (x:uz),(f.set k ({s.bk k with bq:=d},p,t))[j]?=M x-> ∃y,f[j]?=M y/\y.2=x.2/\y.1.waits=x.1.waits/\y.1.aL=x.1.aL:=by
  grind
 refine⟨⟨c,u,z,n,f.set k ({s.bk k with bq:=d},p,t),?_⟩,(Kp.refl _ w).bK _ _⟩;refine⟨h.Ce (X:=λr=>r=5) a Y,(h.DV (X:=λr=>r=5) a Y Y:),?_,(h.nV (X:=λr=>r=5) a Y:),(h.lL (X:=λr=>r=5) a Y:),?_,(h.jD (X:=λr=>r=5) a Y:),?_,?_,?_,h.r1,h.r2,h.r3,h.r4,h.r5,h.r6,?_,?_,h.ro,h.Rt (X:=λr=>r=5) a⟩
 .have :=h.DW (X:=λr=>r=5) a Y;grind
 .grind
 .simp only[Xf,h.eq]
 .intro j x i;obtain⟨y,l,e1,e2,-⟩:=e j x i;have:=h.nX (X:=λr=>r=5) a j y l Y;grind
 .intro j x i;obtain⟨y,l,e1,-,e2⟩:=e j x i;have:=h.iL (X:=λr=>r=5) a Y j y l;grind
 .intro j x i;obtain⟨y,l,e1,-⟩:=e j x i;rw[<-e1];exact h.rw j y l
 .intro j x i;obtain⟨y,l,e1,-⟩:=e j x i;rw[<-e1];exact h.Q0 (X:=λr=>r=5) a j y l
def cU.cut(h:cU E g w s)(d:n<=s.stack.length):∃b a,(∃c,w.heap[E.bb]?=M (eM E g s (Q b s.stack.length a) c))/\s.stack.length<=a/\(b=H->a=0)/\ ∀W,Kp no w W->cU E g (W.setCell ⟨E.bb,4,H⟩ (Q b n a)) {s with stack:=s.stack.take n}/\Kp (one E.bb) w (W.setCell ⟨E.bb,4,H⟩ (Q b n a)):=by
 obtain⟨f,m,o,c,p,h⟩:=h;obtain⟨q,⟨rfl,e⟩|⟨i,a,j,rfl,r,t,k,u,l,v⟩⟩:=h.stack
 .refine⟨H,0,⟨c,?_⟩,Y,λ_=>rfl,λW b=>Jb h (by rw[e]) d b⟩;rw[e];exact h.body
 .exact⟨M ⟨i,0,H⟩,a,⟨c,h.body⟩,k,(λh=>by cases h),λW b=>Jb h U d b⟩
def cU.Jc(h:cU E g w s)(f:k<s.af.length):∃c d,(∀W,Kp no w W->W.cell? ⟨g,k*5,H⟩=M (V O (s.bk k).bq)/\W.cell? ⟨g,k*5+1,H⟩=M c/\W.cell? ⟨g,k*5+2,H⟩=M (V O (s.bk k).aH)/\
   W.cell? ⟨g,k*5+3,H⟩=M (V O (s.bk k).start)/\W.cell? ⟨g,k*5+4,H⟩=M d/\W.frozen? ⟨g,k*5,H⟩=Yj)/\aq w c (s.bk k).aL/\(∀b,c.ownBlock=M b->b≠E.bb)/\aw w d 1 (s.bk k).waits.length ((s.bk k).waits.map λn=>Value.int O ((n:Nat):Int))/\g≠E.bb:=by
 obtain⟨i,u,x,y,z,h⟩:=h;obtain⟨c,d,a,j,l,n,p,r⟩:=h.bk f;refine⟨c,d,λW k=>⟨k.aY j,k.aY l,k.aY n,k.aY p,k.aY r,(k.own h.af bW).frozenAt _⟩,h.results k _ a,λb t e=>?_,aw.own (h.waits k _ a),λe=>?_⟩
 .have :=(h.rr k _ a b t).1;rw[e,h.r3]at this;cases this
 .have :=h.r5;rw[e,h.r3]at this;cases this
def cU.RT(h:cU E g w s)(c:k<s.af.length)(a:Nat):cU E g (w.setCell ⟨g,k*5,H⟩ (V O a)) {s with af:=s.af.set k {s.bk k with bq:=a}}/\Kp (fy E.ro) w (w.setCell ⟨g,k*5,H⟩ (V O a)):=by
 obtain⟨d,l,n,p,r,h⟩:=h;obtain⟨f,i⟩:=OD h c a;exact⟨f,i.mono (λb _ (e:b=g) j=>by have:=h.ro b j;rw[e,h.r5]at this;cases this)⟩
theorem RU(h:cU E g w s)(z:Sz N s)(I:N<=500000)(d:s.af≠[])(B:s.top.bq≠3\/nB s (s.af.length-1)=Yj):Yy prog 256 #[aj E.bb] w λr a=>Done E w a (cZ s) r/\Kp (fy E.ro) w a:=by
 have J:=Vs.2 d;have C:=z.st;have D:=z.bl;have f:=jL h d Y;obtain⟨K,L,b,-,-,-,-⟩:=h.Jc (k:=s.af.length-1) Y;have m:=λW (a:Kp no w W)=>sX (h.quiet a) (k:=s.af.length-1) Y (z.aH Y) Y
 have i:((s.top.bq:Int) !=3)= !(s.top.bq==3):=Ve
 change Hid (∀W,Kp no w W->W.cell? _=M (V O (s.top.bq:Nat))/\_)at b;generalize s.top.bq=n at *;by_cases x:n=3
 .have o:(n==3)=true:=Ve
  have p:=B.resolve_left (λe=>e x);rw[o]at i;subst x;go_enter func256,ntmps256;go_wp2_with fail;refine f.bw ?_;rintro l a;obtain⟨q,-,-,-,-,-⟩:=b l a;have r:=m l a;go_wp2_with fail;refine r.bw ?_;rintro P y;have t:=ia (h.quiet (a.trans y));have A:=a.trans y;rw[p];go_wp2_with fail;refine t.mono ?_;rintro e F⟨⟨G,rfl,j,rfl,u,c⟩,v⟩;go_wp2;go_ret;exact⟨⟨aj j,U,j,U,cj A.size,c⟩,(A.trans v).any⟩
 .have o:(n==3)=false:=Ve
  rw[o]at i;go_enter func256,ntmps256;go_wp2_with fail;refine f.bw ?_;rintro l a;obtain⟨q,-,-,-,-,-⟩:=b l a;have t:=Z (ia (h.quiet a));go_wp2_with fail;refine t.mono ?_;rintro e F⟨⟨G,rfl,j,rfl,u,c⟩,v⟩;go_wp2;go_ret;exact⟨⟨aj j,U,j,U,cj a.size,c⟩,(a.trans v).any⟩
end
section
variable{E:ez}{g N:Nat}{w:World}{s:Bd}
theorem nH(a:UInt8)(b:k<s.af.length):(bu s a k).stack=s.stack/\(bu s a k).af.length=s.af.length/\(bu s a k).pos=s.pos/\ ∀j,((bu s a k).bk j).bq=(s.bk j).bq/\((bu s a k).bk j).aH=(s.bk j).aH/\((bu s a k).bk j).start=(s.bk j).start/\((bu s a k).bk j).aL=(s.bk j).aL:=by
 unfold bu;split
 .exact⟨U,U,U,λj=>⟨U,U,U,U⟩⟩
 .refine⟨U,by simp[bo],U,λj=>?_⟩;have c:∀x,(bo {s with af:=s.af.set k {s.bk k with waits:=(s.bk k).waits++[s.ao.length]}} x).bk j=if k=j then {s.bk k with waits:=(s.bk k).waits++[s.ao.length]}else s.bk j:=λx=>Cy b _ j
  grind
def RV(h:cU E g w s)(z:Sz N s)(hN:N<=500000)(d:s.af≠[])(X:s.top.bq=3)(l:nB s (s.af.length-1)=Yk):Yy prog 256 #[aj E.bb] w λr a=>Done E w a (iC s) r/\Kp (fy E.ro) w a:=by
 have hM:iC s= Yn {dZ (bu s 5 (s.af.length-1)) (s.top.start-1)with af:=(bu s 5 (s.af.length-1)).af.set (s.af.length-1) {(bu s 5 (s.af.length-1)).bk (s.af.length-1)with bq:=4},stack:=s.stack.take s.top.aH,aR:=Yj}:=by
  have hl:0<s.af.length:=Vs.2 d;obtain⟨e1,e2,-,e3⟩:=nH (s:=s) 5 (k:=s.af.length-1) Y;unfold iC;rw[Va Ve];show Except.ok _=_
  have e4:(dZ (bu s 5 (s.af.length-1)) (s.top.start-1)).top=(bu s 5 (s.af.length-1)).bk (s.af.length-1):=by
   unfold Bd.top;show(bu s 5 (s.af.length-1)).bk _=_
   congr 1
   show(bu s 5 (s.af.length-1)).af.length-1=_
   rw[e2]
  rw[e4];have a:(dZ (bu s 5 (s.af.length-1)) (s.top.start-1)).stack=s.stack:=e1;have b:(dZ (bu s 5 (s.af.length-1)) (s.top.start-1)).af.length=s.af.length:=e2;rw[a,b,(e3 _).2.1];rfl
 have hl:0<s.af.length:=Vs.2 d;generalize iC s=R at *;have w6:=z.st;have w7:=z.bl;have w8:=z.cd;have p:=jL h d Y;have b:s.af.length-1<s.af.length:=Y
 have r:=λW c (a:cU E g W c) (e:c.af.length=s.af.length)=>a.Jc (k:=s.af.length-1) Y
 have e:=λW (i:Kp no w W)=>sX (h.quiet i) (k:=s.af.length-1) Y (z.aH Y) Y
 rw[l]at e;have c:s.top=s.bk (s.af.length-1):=rfl;obtain⟨j1,j2,-,J⟩:=nH (s:=s) 5 b;have zj:=qE z 5 b;have t:=λW (a:cU E g W s)=>sY a z hN b 5
 have h0:=(zj.wt (s.af.length-1) Y).2.2.2.2 Ve;have h1:=(z.wt _ b).2.1;have h2:=z.aH b;rw[(J _).2.2.1,<-c]at h0;rw[<-c]at h1 h2;have u:=(J (s.af.length-1)).2.1;have f:=(J (s.af.length-1)).2.2.1;rw[<-c]at u f;have zc:=zj.cd;generalize bu s 5 (s.af.length-1)=sj at *;have x:=λW (a:cU E g W sj)=>RN a (n:=s.top.start-1) Y Y
 have h3:∀j,(dZ sj (s.top.start-1)).bk j=sj.bk j:=λ_=>rfl
 have y:(dZ sj (s.top.start-1)).af.length=s.af.length:=j2;have A:(dZ sj (s.top.start-1)).stack=s.stack:=j1;have h4:(dZ sj (s.top.start-1)).af=sj.af:=rfl;have HI:=Z p;have HB:=Z r;clear p r l j1 J z zj;change Hid _ at e t x hM X c u f h3 y A j2 h4;replace h:=Z h;have B:∀W,Kp no w W->W.cell? ⟨g,(s.af.length-1)*5,H⟩=M (V O 3):=by
  intro W i;obtain⟨j,C,a,-⟩:=HB w s h U;grind[Hid]
 change Hid _ at B;generalize w9:s.top.aH=W at *;generalize e0:s.top.start=j at *;go_enter func256,ntmps256;go_wp2_with fail;refine HI.bw ?_;rintro w3 C;have h5:=B w3 C;have h6:=Z (e w3 C);go_wp2_with fail;refine h6.bw ?_;rintro e5 k2;have h7:=Z (t e5 (h.quiet (C.trans k2)));have HK:=Z (C.trans k2);clear C k2 h5;go_wp2_with fail;refine h7.bw ?_;rintro K⟨h8,w4⟩;obtain⟨e6,e7,D,-⟩:=HB K sj h8 j2;obtain⟨-,-,-,h9,-,-⟩:=D K (Kp.refl no K);rw[f.out]at h9;have k0:=Z (x K h8);have k1:=Z (Kp.trans HK.any w4);clear h8 w4 D;have F:((j:Int)-1)=((j-1:Nat):Int):=Y
 change Hid _ at F;go_wp2_with fail;rw[F.out];refine k0.bw ?_;rintro L⟨w5,e8⟩;have k3:=Z (k1.trans e8);obtain⟨S,e9⟩:=w5.RT (k:=s.af.length-1) (by grind[Hid]) 4;obtain⟨s0,s1,k4,-,-,-,s2⟩:=HB L _ w5 y;obtain⟨s3,-,-,-,-,s4⟩:=k4 L (Kp.refl no L);obtain⟨s5,s6,k5,-⟩:=HB _ _ S (by grind[Hid]);have k6:=(k5 _ (Kp.refl no _)).2.2.1;rw[show(Bd.bk {dZ sj (j-1)with af:=(dZ sj (j-1)).af.set (s.af.length-1) {(dZ sj (j-1)).bk (s.af.length-1)with bq:=4}} (s.af.length-1)).aH=W by
  rw[Cy (by grind[Hid]),Vi U];grind[Hid]]at k6
 obtain⟨ad,s7,⟨s8,i⟩,k7,k8,hcut⟩:=S.cut (n:=W) (by grind[Hid]);simp only[eM]at i;simp only[show(dZ sj (j-1)).stack=s.stack from A.out]at i k7 hcut;obtain⟨s9,x0⟩:=ae i;have G:=Z (k3.trans e9);go_wp2_with fail;generalize L.setCell ⟨g,(s.af.length-1)*5,H⟩ (V O 4)=T at *;cases ad with
 |none=>
  have a:=k8 U;subst a;have k9:W=0:=Y
  subst k9;go_region;all_goals
   go_wp2;go_ret;rw[hM.out];obtain⟨I,w0⟩:=hcut T (Kp.refl no T);obtain⟨w1,w2⟩:=gW I Yj;exact⟨⟨U,g,w1.quiet ((Kp.refl no _).drew)⟩,((G.trans (S.dV w0)).trans (I.dV w2)).drew⟩
 |some a=>
  go_region
  all_goals
   go_wp2;go_ret;rw[hM.out];obtain⟨I,w0⟩:=hcut T (Kp.refl no T);obtain⟨w1,w2⟩:=gW I Yj;exact⟨⟨U,g,w1.quiet ((Kp.refl no _).drew)⟩,((G.trans (S.dV w0)).trans (I.dV w2)).drew⟩
end
def EC:(Tryz.prog.info? 357).map (λi=>(i.zero,i.size,i.bytes))=M (M (Yv H),1,8):=Vf
def O1(l:List Nat)(m:Except (Int×Int) (List Nat×Bd)):Except (Int×Int) (List Nat×Bd):=
 match m with
 | Ym e=> Ym e
 | Yn (l',s')=> Yn (l++l',s')
def Le(c:nt)(l:List Nat)(r:Nat)(s:Bd):O1 l (dN c (r+1) s)=(match bf c s with
  | Ym e=> Ym e
  | Yn (k,a)=>O1 (l++[k]) (dN c r a)):=by
 grind[dN,O1]
section
variable{E:ez}{g N:Nat}{w:World}{s:Bd}
def cU.Sf(h:cU E g w s)(k:Kp (one E.rb) w W)(c:kC W E.rb E.dv E.c.D j)(X:Nat->Prop)(o:∀b,X b->w.heap.size<=b/\b<W.heap.size):cU (E.plus X) g W {s with i:=j}:=by
 obtain⟨d,e,f,l,m,h⟩:=h;have n:=h.pn 0;have h2:=n.zU k c;refine⟨_,e,f,l,m,⟨⟨h2.env.base,λb a=> Yo (h2.env.dv b a),?_,?_,h2.env.aZ,λb a=> Yo (h2.env.lv b a),h2.env.nf,h2.env.ng,h2.env.nl,h2.env.res⟩,h2.rd,h2.body,h2.mod,h2.stack,h2.af,h2.ao,h2.eq,h2.waits,h2.results,h2.r1,h2.r2,h2.r3,h2.r4,h2.r5,h2.r6,h2.rw,h2.rr,?_,?_⟩⟩
 .exact Ao
 .exact Ap
 .intro b a;rcases a with a|a
  .exact h2.ro b a
  grind[ef]
 .intro b a;rcases a with a|a
  .exact h2.lt b a
  grind
def cU.Sg(h:cU E g w s)(b:Nat)(a:E.dv.ownBlock=M b):b<w.heap.size:=by
 obtain⟨c,d,e,f,i,h⟩:=h;exact h.lt b (h.env.dv b a)
def ur(h:cU E g w s)(z:Sz N s)(hN:N<=400000)(h0:s.af≠[]):Yy prog 259 #[aj E.bb] w λr a=>Done E w a (er E.c s) r/\Kp (fy E.ro) w a:=by
 have hM:er E.c s=er E.c s:=rfl;conv at hM=>rhs;unfold er
 have s7:=z.st;obtain⟨i0,w9,e0,e1,h9⟩:=info_parts EC;have c:=Z h;obtain⟨sv,kc,G,-⟩:=h.gG;obtain⟨hc,hf⟩:=ae G;have s8:=au h.rd.az;have HB:=Z (fM h.rd 17 Vb Vb);have m:=Z hM;clear h G hM;go_enter func259,ntmps259;go_wp2_with fail;refine HB.mono ?_;cases y:bp E.c.D 17 s.i with
 |error e=>
  rintro r e2⟨⟨o,j,rfl,⟨b,rfl,hF⟩,A⟩,k1⟩;clear A;change Hid _ at hF;go_wp2;go_ret;exact Done.bad (m.trans (by rw[y])) ⟨b,U,hF⟩ cQ (c.jF k1)
 |ok x=>
  obtain⟨n,j⟩:=x;rintro r e2⟨⟨v,rfl,rfl,A⟩,k1⟩;have hn:=(cz y).1;replace m:=Z (m.trans (by rw[y]));have H1:=Z A;have s9:=k1.size;clear A hc hf y HB;change Hid _ at k1;go_wp2;go_loopw [5,24] (λgv T wr=> ∃(k I:Nat) (l:List Nat),k<=n+1/\T= V O k/\l.length=k/\wr.ownsRow w.heap.size 357 1 gv k (GX g l)/\Kp (one E.rb) w wr/\kC wr E.rb E.dv E.c.D I/\(∀q,q<k->l.getD q 0<s.af.length)/\dN E.c (n+1) {s with i:=j}=O1 l (dN E.c (n+1-k) {s with i:=I})) (λ_ T _=>n+1 - (intOf T).toNat);case atStart=>
   refine⟨0,j,[],Y,U,U,⟨U,Yp ⟨e2.heap.size,0,#[],U,Y,ai _ _,cQ,by simp[maxLen],U,U⟩⟩,k1.alloc _,H1.kp ((Kp.refl no e2).alloc _) id (λ_ _ _ h=>h),λq y=>Y,?_⟩;cases dN E.c (n+1) {s with i:=j}with
   |error e=>rfl
   |ok x=>rfl
  case round=>
   obtain⟨k,I,l,hk,rfl,f,u,d,h1,J,B⟩:=hrel;obtain⟨C,D,rfl⟩:=aA u;have K:=Z J;have h2:=Z B;have x0:=d.size;clear J B;change Hid _ at d h1 f;replace u:=Z u;by_cases x1:k<n+1
   .have L:=h2.out;rw[show n+1-k=(n-k)+1 by omega,Le]at L;change Hid _ at L;go_wp2_with fail;refine(nh (c.read d h1) h0 z.bl).mono ?_;cases y:bf E.c {s with i:=I}with
    |error e=>
     rintro r w2⟨⟨o,rfl,b,rfl,p,a⟩,P⟩;change Hid _ at a;go_wp2;go_ret;exact Done.bad (m.trans (by rw[L.out,y])) ⟨b,U,Y,a⟩ cQ (c.jF (d.trans P))
    |ok x=>
     obtain⟨q,s1⟩:=x;obtain⟨R,j2,W⟩:=Ej (s:={s with i:=I}) h0 y;subst W;rintro r w2⟨⟨rfl,h4⟩,P⟩;replace L:=Z (L.trans (by rw[y]));replace y:=R;clear R;have X:=Z h4.rd;have a:=P.own u (λb t (e:b=E.rb)=>cj (aK u b t));have h3:=Z (d.trans P);have h8:=P.size;clear h4 P;replace a:=Z a;go_wp2_with(at_builtin;refine bj _ U _ _ 363 U w.heap.size 357 i0 _ 1 8 underlying363 w9 e0 e1 h9 U Vb _ _ _ U (a.alloc _) _ 1 [Yv _] U (aw.new _ _ _) (eP U) ?c3 ?c4 ?c5 ?_);case c3=>unfold maxLen;omega
     case c4=>omega
     case c5=>simp;omega
     intro v3 w3 o F h5;obtain⟨k0,k2,rfl⟩:=aA o;have h6:=Z ((h3.alloc _).bS F (λb t=> Yp (aK a b t)));have h7:=Z (X.kp (((Kp.refl _ w2).alloc _).bS F (λb t=> Yo (aK a b t))) (λ(e:w.heap.size<=E.rb)=>Y) (λb t p _=>cj (c.Sg b t)));clear F h5;replace o:=Z o;go_wp2;go_roundw;case rel=>
      refine⟨k+1,j2,l++[q],Y,by go_num,by simp[f.out],by simpa[GX]using o.out,h6,h7,?_,?_⟩
      .intro p S;rcases VE p k with e|e
       .have :=K p e;rw[List.getD,VC (by rw[f.out];exact e)];exact this
       .obtain rfl :p=k:=Y
        rw[List.getD,VQ (by rw[f.out];omega),f.out];simpa using y
      .rw[L.out,show n+1 - (k+1)=n-k by omega]
     case measure=>simp[intOf];omega
   .obtain rfl :k=n+1:=Y
    obtain⟨X,hX⟩:=bL (λb=>w.heap.size<=b/\b<wr.heap.size:Nat->Prop);have hG:cU _ g wr {s with i:=I}:=c.Sf d h1 X (λb t=>by rw[hX]at t;exact t);have B:=h2.out;rw[Wr]at B;have hM:=m.out;rw[show dN E.c (n+1) {s with i:=j}= Yn (l,{s with i:=I})by rw[B,dN,O1,VF]]at hM;simp only at hM;have L:∀b,(Value.slice C (n+1) D).ownBlock=M b->X b:=λb t=>by rw[hX];exact⟨aK u b t,bR u t⟩
    have F:aw wr (Q C (n+1) D) 1 l.length (GX g l):=by rw[f.out];exact aw.own u
    have h3:∀W,aw W (Q C (n+1) D) 1 l.length (GX g l)-> ∀q,q<n+1-> ∃a o,C=M ⟨a,o,H⟩/\n+1<=D/\W.cell? ⟨a,o+q,H⟩=M (Yv (M ⟨g,l.getD q 0*5,H⟩)):=by
     intro W P q y;obtain⟨a,o,R,p,h5,k0⟩:=aw.get P (ya g l (by rw[f.out];exact y));simp only[Vz]at p;obtain⟨rfl,h4,rfl⟩:=p;exact⟨a,o,U,Y,k0⟩
    have k2:∀b,(Value.slice C (n+1) D).ownBlock=M b->b≠E.bb:=λb t e=>by
     have A:=aK u b t;obtain⟨sv,kc,G,-⟩:=c.gG;have h4:=au G;omega
    have zj:=z.read I s.pos s.aR;have HT:=Z (jf hG h0 z.bl (by simp only;omega) 127);have J:=K n Y;replace m:=Z hM;clear B h2 hX hM;change Hid _ at h3 k2;replace F:=Z F;change Hid _ at L;replace hG:=Z hG;obtain⟨a,o,e3,x2,k3⟩:=h3 wr F n Y;subst e3;have x3:(n:Int)<(n+1):=Y
    go_wp2_with fail;refine HT.mono ?_;cases P:cO {s with i:=I} 127 with
    |none=>
     rintro r x4⟨⟨rfl,s2,A,p⟩,k5⟩;have S:=p.pos;have d:=Z ((c.jF d).trans (hG.dV k5).cV);replace m:=Z (m.trans (by rw[P]));go_wp2_with fail;refine(eB m A S d).mono ?_;rintro _ _⟨v,rfl,HD⟩;go_wp2;go_ret;exact HD
    |some s2=>
     rintro r x4⟨⟨rfl,s4⟩,k5⟩;replace m:=Z (m.trans (by rw[P]));have zs:=fZ zj P;have us:=eA P;have h9:=zs.st;have k4:l.getD n 0<s2.af.length:=by rw[us.len];exact J
     have k0:=k5.cell k3 (λe=>k2 a U e);have k6:=Z (hG.dV k5);clear k5 k3;go_wp2_with fail;refine(pF s4 zs.bl Y k4 (qD (zs.wt _ k4).2.2.1)).mono ?_;cases W:dg s2 (l.getD n 0)with
     |none=>
      rintro r x5⟨⟨rfl,p,A,e⟩,w4⟩;have S:=e.trans us.pos;have d:=Z ((c.jF d).trans (k6.trans w4).cV);replace m:=Z (m.trans (by rw[W]));go_wp2_with fail;refine(eB m A S d).mono ?_;rintro _ _⟨v,rfl,HD⟩;go_wp2;go_ret;exact HD
     |some p=>
      rintro r x5⟨⟨rfl,w5⟩,w4⟩;replace m:=Z (m.trans (by rw[W]));have R:=Z (jb zs W);have x6:=R.1.cd;have k7:p.af.length=s.af.length:=by rw[R.2.len,us.len]
      have h4:=Z (k6.trans w4);have HA:=Z (Ld w5 (F.kp h4 (λb t hn=>hn (Yp (L b t)))) (λq y=>by rw[k7];exact K q (by rw[f.out]at y;exact y)) (by rw[f.out];omega));clear w4 s4;replace w5:=Z w5;go_wp2_with fail;refine HA.bw ?_;rintro x9 w6;have A:=w5.quiet w6;cases k8:jN p l with
      |false=>
       have S:=R.2.pos.trans us.pos;have d:=Z ((c.jF d).trans (h4.trans w6.any).cV);replace m:=Z (m.trans (by rw[k8];all_goals rfl));go_wp2_with fail;refine(eB m A S d).mono ?_;rintro _ _⟨v,rfl,HD⟩;go_wp2;go_ret;exact HD
      |true=>
       replace m:=Z (m.trans (by rw[k8];all_goals rfl));have e4:=Z (eT A ⟨14,n,0,0,0⟩ Y);have e5:=Z (h4.trans w6.any);clear w6 A;go_wp2_with fail;refine e4.bw ?_;rintro s5⟨w7,s6⟩;have k9:=Z (e5.trans s6);clear s6;replace w7:=Z w7;have e:∀k,k<l.length->cx (l.take (k+1)) (bo p ⟨14,n,0,0,0⟩)=bu (cx (l.take k) (bo p ⟨14,n,0,0,0⟩)) 12 (l.getD k 0):=λk hk=>by
        rw[List.take_add_one,cx,List.foldl_append];simp[Vj hk,cx]
       have S:cx (l.take 0) (bo p ⟨14,n,0,0,0⟩)=bo p _:=rfl;have w0:cx (l.take (n+1)) (bo p ⟨14,n,0,0,0⟩)=cx l (bo p ⟨14,n,0,0,0⟩):=by rw[<-f.out,Wh]
       have w1:=ik R.1 ⟨14,n,0,0,0⟩;have e6:=Z e;have e7:Hid (cU _ g s5 (bo p _)):=w7;have w2:(bo p ⟨14,n,0,0,0⟩).af.length=s.af.length:=k7;have e8:=Z (F.kp k9 (λb t hn=>hn (Yp (L b t))));have e9:=Z ((c.jF d).trans k9.cV);clear e w7;change Hid _ at S w0 w1 w2;generalize bo p ⟨14,n,0,0,0⟩=sE at *;go_wp2;go_loopw [65] (λT h5=> ∃k:Nat,k<=n+1/\T= V O k/\cU (E.plus X) g h5 (cx (l.take k) sE)/\Kp (fy (E.plus X).ro) s5 h5/\Sz (N+1+k) (cx (l.take k) sE)/\(cx (l.take k) sE).af.length=s.af.length) (λT _=>n+1 - (intOf T).toNat);case atStart=>exact⟨0,Y,U,by rw[S.out];exact e7,iR,by rw[S.out];exact w1,by rw[S.out];exact w2⟩
       case round=>
        obtain⟨k,hk,rfl,T,w8,z9,b9⟩:=hrel;have H9:=Z T;clear T;change Hid _ at w8 z9 b9;by_cases h5:k<n+1
        .obtain⟨a2,o2,s0,-,x7⟩:=h3 wr (e8.kp w8 (λb t hn=>hn (Yp (L b t)))) k h5;cases s0;have b:l.getD k 0<(cx (l.take k) sE).af.length:=by rw[b9.out];exact K k h5
         have h6:=nH 12 b;have h7:=qE z9 12 b;have e:=e6 k (by rw[f.out];exact h5);rw[<-e]at h6 h7;have t:=sY H9 z9 Y b 12;rw[<-e]at t;have s1:=Z h6.2.1;clear h6 e b;change Hid _ at h7;replace t:=Z t;generalize l.getD k 0=q at *;go_wp2_with fail;refine t.bw ?_;rintro x8⟨h8,w3⟩;have s3:=Z (w8.trans w3);clear w3;replace h8:=Z h8;go_wp2;go_roundw;case rel=>exact⟨k+1,Y,by go_num,h8,s3,h7,s1.trans b9⟩
         case measure=>simp[intOf];omega
        .obtain rfl :k=n+1:=Y
         have T:=H9.out;rw[w0.out]at T;obtain⟨h7,h8,b,-⟩:=T.gG;obtain⟨w3,s0⟩:=ae b;clear b;replace T:=Z T;go_wp2;go_ret;obtain⟨t,h6⟩:=gW T Yk;have q:=e9.trans (w8.trans (T.dV h6)).cV;exact Done.ok m (t.cV (c.env.kp q)) q
end
def lS(E:ez)(w:Yw)(b:Nat):Prop:= ∃n c,w.cell? ⟨E.mb,3,H⟩=M (Q (M ⟨b,0,H⟩) n c)
section
variable{E:ez}{g N:Nat}{w:World}{s:Bd}
def El(h:cU E g w s){n:Nat}(hn:n<s.ao.length)(r:s.ao.length<=1000000):
  df 282 #[aj E.bb,V O n] w (Yu #[]) λc=>cU E g c (dZ s n)/\Kp (lS E w) w c:=by
 have f:=λW (k:Kp no w W)=>xJ (h.quiet k) r
 obtain⟨t,T,X,kc,bs,h⟩:=h;obtain⟨u,-⟩:=ae h.body;obtain⟨hm,v⟩:=ae h.mod;obtain⟨a,i,b,-,-⟩:=h.ao.form Y;have j:=aw.own h.ao;obtain⟨x,y,l,z⟩:=j.aJ;have m:=λW (k:Kp no w W)=>(I9 h b hn k).1
 have A:a≠E.bb:=λe=>by have:=h.r6 a (by rw[b];rfl);rw[e,h.r3]at this;cases this
 have B:a≠E.mb:=λe=>by have:=h.r6 a (by rw[b];rfl);rw[e,h.r2]at this;cases this
 have hcell:=λW (k:Kp no w W)=>(k.own h.ao bW)
 have o:=Z h.body;have k:=Z h.mod;subst b;cases l;have p:lS E w a:=⟨_,_,(ae h.mod).1 3⟩;have d:∀W,Kp no w W->W.cell? ⟨a,n*5+2,H⟩=M (V O (s.ao.getD n ⟨0,0,0,0,0⟩).goal)/\W.frozen? ⟨a,n*5+2,H⟩=false:=by
  exact Ak
 generalize(s.ao.getD n ⟨0,0,0,0,0⟩).goal=C at *;have D:(0:Int)<=(n:Int):=Y
 have F:(n:Int)<(s.ao.length:Int):=Y
 obtain⟨G,I⟩:=d w (Kp.refl no w);go_enter func282,ntmps282;go_wp2_with fail;go_region_held3 (λc=>c.cell? ⟨E.bb,1,H⟩=M (aj E.mb)/\c.cell? ⟨E.mb,3,H⟩=M (Q (M ⟨a,0,H⟩) s.ao.length i)) (go_keep) (first |(go_at_call 278;refine(f w.drew ((Kp.refl no w).drew)).mono ?_;rintro e q⟨rfl,c⟩;obtain⟨J,K⟩:=ae (c.az (o) id);obtain⟨L,P⟩:=ae (c.az (show w.drew.heap[E.mb]?=_ from k) id);obtain⟨R,S⟩:=d q ((Kp.refl no w).drew.trans c)));have e:=Z ((Kp.refl no w).drew.trans c);go_end0;exact⟨U,m q e,Kp.bE e.any p _ _⟩
def cU.Jd(h:cU E g w s)(l:k<s.af.length):∃d,w.cell? ⟨g,k*5+4,H⟩=M d/\aw w d 1 (s.bk k).waits.length ((s.bk k).waits.map λn=>Value.int O ((n:Nat):Int))/\(∀b,d.ownBlock=M b-> ¬lS E w b)/\ ¬lS E w E.mb/\ ¬lS E w g/\ ¬lS E w E.bb:=by
 obtain⟨f,t,p,u,x,h⟩:=h;obtain⟨y,d,e,z,A,B,C,r⟩:=h.bk l;have a:∀b,lS E w b->f b=6:=by
  rintro b⟨n,c,i⟩;rw[(ae h.mod).1 3]at i;have j:p= Q (M ⟨b,0,H⟩) n c:=Ve
  exact h.r6 b (by rw[j];rfl)
 refine⟨d,r,aw.own (h.waits k _ e),λb i c=>?_,λc=>?_,λc=>?_,λc=>?_⟩
 .have :=a b c;rw[h.rw k _ e b i]at this;omega
 .have :=a _ c;rw[h.r2]at this;cases this
 .have :=a _ c;rw[h.r5]at this;cases this
 .have :=a _ c;rw[h.r3]at this;cases this
def cU.Je(h:cU E g w s)(k:Kp (lS E w) w W):Kp (fy E.ro) w W:=by
 obtain⟨d,j,e,l,m,h⟩:=h;refine k.mono (λb _ a f=>?_);obtain⟨n,c,i⟩:=a;rw[(ae h.mod).1 3]at i;have a:e= Q (M ⟨b,0,H⟩) n c:=Ve
 have:=h.r6 b (by rw[a];rfl);rw[h.ro b f]at this;cases this
def mq(l:List Nat):∀s:Bd,(cC l s).stack=s.stack/\(cC l s).af=s.af/\(cC l s).pos=s.pos/\(cC l s).i=s.i/\(cC l s).aR=s.aR/\(cC l s).ao.length=s.ao.length:=by
 induction l with
 |nil=>intro s;exact⟨U,U,U,U,U,U⟩
 |cons a l ih=>
  intro s;obtain⟨b,c,a3,a4,d,a6⟩:=ih (dZ s a);exact⟨b,c,a3,a4,d,a6.trans (by simp[dZ])⟩
theorem Cz{d:Nat->Nat}{B:List uz}(h:bT E g w s d v u k B)(I:n<=s.stack.length)(a:List UInt8){w1:Yw}{v1:Yx}(q:z.ownBlock=v.ownBlock)(p:Kp no w W)(t:m=n+a.length)
  (x:F=((s.stack.take n).map λc=> V Ys c.toNat)++(a.map λc=> V Ys c.toNat))
  (y:w1.ownsRow E.B 5 1 v1 m F)(f:W.grownBy w1 z.ownBlock)(o:v1.ownBlock=z.ownBlock\/v1.ownBlock=M W.heap.size):
  cU E g (w1.setCell ⟨E.bb,4,H⟩ v1) {s with stack:=s.stack.take n++a}/\Kp (fy E.ro) w (w1.setCell ⟨E.bb,4,H⟩ v1):=by
 subst t x;rw[q]at f o;have i:=h.pn 4;have t:=au h.body;have G:Kp (λb=>(λr=>r=3\/r=4) (dC d w.heap.size 4 b)) w w1:=(p.any).bS f (λb j=> Yo (Yp (i.r4 b j)));have C:=G.bE (Yo i.r3) 4 v1;have D:∀b,v1.ownBlock=M b->dC d w.heap.size 4 b=4:=by
  intro b j;rcases o with e|e
  .exact i.r4 b (e▸j)
  .rw[j]at e;cases e;exact ef p.size
 have A:w1.heap[E.bb]?=M (eM E g s v k):=(f.block E.bb (Vm t p.size) (λe=>by have:=h.r4 _ e.symm;rw[h.r3]at this;cases this)).trans (p.az h.body id);refine⟨⟨_,v1,u,k,B,i.sJ (l:=s.stack.take n++a) C (heap_setCell A v1) ?_ D⟩,i.fy (X:=λr=>r=3\/r=4) C Vb⟩;have r:(w1.setCell ⟨E.bb,4,H⟩ v1).ownsRow E.B 5 1 v1 (n+a.length) (((s.stack.take n).map λc=> V Ys c.toNat)++(a.map λc=> V Ys c.toNat)):=
  ((Kp.refl (one E.bb) w1).bK 4 v1).own y (λb j (e:b=E.bb)=>by subst e;have:=D _ j;rw[i.r3]at this;cases this)
 grind
def RX{d:Nat->Nat}{i:List uz}(h:bT E g w s d v u k i)(G:n<=s.af.length)(q:Kp no w W):
  cU E g (W.setCell ⟨E.bb,5,H⟩ (Q (M ⟨g,0,H⟩) n k)) {s with af:=s.af.take n}/\Kp (one E.bb) w (W.setCell ⟨E.bb,5,H⟩ (Q (M ⟨g,0,H⟩) n k)):=by
 have a:=h.quiet q;have c:Kp (λb=>(λr=>r=3) (d b)) W (W.setCell ⟨E.bb,5,H⟩ (Q (M ⟨g,0,H⟩) n k)):=Kp.bE (S:=λb=>(λr=>r=3) (d b)) (Kp.refl _ W) (b:=E.bb) h.r3 _ _;have l:(s.af.take n).length=n:=Vd
 have e:∀(j:Nat) (x:uz),(i.take n)[j]?=M x->i[j]?=M x:=by
  grind
 refine⟨⟨d,v,u,k,i.take n,?_⟩,Kp.bK q.any _ _⟩;refine⟨a.Ce (X:=λr=>r=3) c Y,(a.DV (X:=λr=>r=3) c Y Y:),?_,(a.nV (X:=λr=>r=3) c Y:),(a.lL (X:=λr=>r=3) c Y:),?_,(a.jD (X:=λr=>r=3) c Y:),?_,?_,?_,h.r1,h.r2,h.r3,h.r4,h.r5,h.r6,λj x f=>h.rw j x (e j x f),λj x f=>a.Q0 (X:=λr=>r=3) c j x (e j x f),h.ro,a.Rt (X:=λr=>r=3) c⟩
 .have :=heap_setCell (o:=5) a.body (Q (M ⟨g,0,H⟩) n k);grind
 .have t:=a.nW (X:=λr=>r=3) c Y;obtain⟨I,⟨y,J⟩|⟨K,z,m,A,B,C,L,D,p,F⟩⟩:=t
  .cases y
  .cases A;refine⟨?_,Yp ⟨g,k,m,by simp[l],B,C,Ve,D,p,?_⟩⟩
   .simp_all[uy,DU]
   .rw[uy DU,<-F,List.take_take];simp
 .simp only[h.eq,WB]
 .exact λj x f=>a.nX (X:=λr=>r=3) c j x (e j x f) Y
 .exact λj x f=>a.iL (X:=λr=>r=3) c Y j x (e j x f)
end
section
variable{E:ez}{g N:Nat}{w:World}{s:Bd}
def GJ:(Tryz.prog.info? 298).map (λi=>(i.zero,i.size,i.bytes))=M (M (.agg #[V O 0,Q H 0 0,V O 0,V O 0,Q H 0 0]),5,72):=Vf
def OE{A:Nat->Nat}{q:List uz}(h:bT E g w s A v u i q)(b:Bk)(T:b.waits=[]){w1:World}(C:Kp no w W)(h0:aq W z b.aL)(B:∀c,z.ownBlock=some c->E.ro c)
     (hn:n=s.af.length+1)(D:F=q.flatMap fH++fH (b,z,.slice none 0 0))
  (G:w1.ownsRow E.B 298 5 (.slice (some ⟨a,0,none⟩) n t) n F)(y:W.grownBy w1 (some g))(I:some a=some g\/some a=some W.heap.size):
  cU E a (w1.setCell ⟨E.bb,5,none⟩ (.slice (some ⟨a,0,none⟩) n t)) {s with af:=s.af++[b]}/\Kp (fy E.ro) w (w1.setCell ⟨E.bb,5,none⟩ (.slice (some ⟨a,0,none⟩) n t)):=by
 subst hn D;obtain⟨f,J⟩:=bL (dC A w.heap.size 5:Nat->Nat);have d:bT E g w s f v u i q:=h.mM (λk hk=>by simp_all[mi]);have h1:=bR h.af U;have K:=au h.body;have L:∀c,z.ownBlock=some c->f c=0:=λc p=>d.ro c (B c p)
 have P:f a=5:=by
  rcases I with e|e
  .grind[bT.r5]
  .cases e;rw[J];exact ef C.size
 have k1:Kp (λb=>(λr=>r=3\/r=5) (f b)) w w1:=(C.any).bS y (λb j=>.inl (.inr (by grind[bT.r5])));have l:Kp (λb=>(λr=>r=3\/r=5) (f b)) w (w1.setCell ⟨E.bb,5,none⟩ (.slice (some ⟨a,0,none⟩) (s.af.length+1) t)):=k1.bE (.inl d.r3) 5 _;have h2:g≠E.bb:=λe=>by grind[bT.r5,bT.r3]
 have h3:a≠E.bb:=λe=>by grind[bT.r3]
 have R:w1.heap[E.bb]?=some (eM E g s v i):=(y.block E.bb (Vm K C.size) (λe=>Ve)).trans (C.az h.body id);have m:∀(j:Nat) (x:uz),(q++[(b,z,Value.slice none 0 0)])[j]?=some x->q[j]?=some x\/x=(b,z,.slice none 0 0):=by
  grind
 have S:aq (w1.setCell ⟨E.bb,5,none⟩ (.slice (some ⟨a,0,none⟩) (s.af.length+1) t)) z b.aL:=by
  have kk:Kp (λk=>k=g\/k=E.bb) W (w1.setCell ⟨E.bb,5,none⟩ (.slice (some ⟨a,0,none⟩) (s.af.length+1) t)):=((Kp.refl _ W).bS y (λk hk=>.inl (.inl Ve))).bE (.inr U) _ _;grind[aq.kp,bT.r5,bT.r3]
 have k:(w1.setCell ⟨E.bb,5,none⟩ (.slice (some ⟨a,0,none⟩) (s.af.length+1) t)).ownsRow E.B 298 5 (.slice (some ⟨a,0,none⟩) (s.af.length+1) t) (s.af.length+1) (q.flatMap fH++fH (b,z,.slice none 0 0)):=
  ((Kp.refl (one E.bb) w1).bK _ _).own G (λc p (e:c=E.bb)=>by cases p;grind)
 refine⟨⟨f,v,u,t,q++[(b,z,.slice none 0 0)],?_⟩,d.fy (X:=λr=>r=3\/r=5) l Y⟩;refine⟨d.Ce (X:=λr=>r=3\/r=5) l Y,(d.DV (X:=λr=>r=3\/r=5) l Y Y:),?_,(d.nV (X:=λr=>r=3\/r=5) l Y:),(d.lL (X:=λr=>r=3\/r=5) l Y:),?_,(d.jD (X:=λr=>r=3\/r=5) l Y:),?_,?_,?_,d.r1,d.r2,d.r3,d.r4,P,d.r6,?_,?_,d.ro,d.Rt (X:=λr=>r=3\/r=5) l⟩
 .have :=heap_setCell (o:=5) R (.slice (some ⟨a,0,none⟩) (s.af.length+1) t);grind
 .grind
 .simp[h.eq]
 .intro j x e;rcases m j x e with e|rfl
  .exact d.nX (X:=λr=>r=3\/r=5) l j x e Y
  grind[World.ownsRow_nil]
 .intro j x e;rcases m j x e with e|rfl
  .exact d.iL (X:=λr=>r=3\/r=5) l Y j x e
  .exact S
 .intro j x e;rcases m j x e with e|rfl
  .grind[bT.rw]
  .intro c p;cases p
 .intro j x e;rcases m j x e with e|rfl
  .exact d.Q0 (X:=λr=>r=3\/r=5) l j x e
  .intro c p;exact⟨L c p,Vm (h.lt c (B c p)) l.size⟩
def cU.push(h:cU E g w s):∃i j e,w.heap[E.bb]?=M (eM E g s i j)/\(∃b a,i= Q b s.stack.length a)/\M E.bb≠M g/\(∀W,Kp no w W->W.ownsRow E.B 298 5 (Q (M ⟨g,0,H⟩) s.af.length j) s.af.length e)/\
  ∀(b:Bk) l W f d a n m,b.waits=[]->Kp no w W->aq W l b.aL->(∀c,l.ownBlock=M c->E.ro c)->n=s.af.length+1->m=e++fH (b,l,Q H 0 0)->f.ownsRow E.B 298 5 (Q (M ⟨d,0,H⟩) n a) n m->W.grownBy f (M g)->(M d=M g\/M d=M W.heap.size)->
   cU E d (f.setCell ⟨E.bb,5,H⟩ (Q (M ⟨d,0,H⟩) n a)) {s with af:=s.af++[b]}/\Kp (fy E.ro) w (f.setCell ⟨E.bb,5,H⟩ (Q (M ⟨d,0,H⟩) n a)):=by
 obtain⟨c,i,q,j,o,h⟩:=h;refine⟨i,j,o.flatMap fH,h.body,aA h.stack,λe=>?_,λW k=>k.own h.af bW,λb l W f d a n m e k f d a l m n p=>OE h b e k f d a l m n p⟩;grind[bT.r5,bT.r3]
end
section
variable{E:ez}{g N:Nat}{w:World}{s:Bd}
def GK(h:cU E g w s)(z:Sz N s)(hN:N<=500000)(D:s.af≠[])(m:UInt8)(F:m=35\/m=36):Yy prog 264 #[aj E.bb,V Ys m.toNat] w λr a=>Done E w a (dn E.c m s) r/\Kp (fy E.ro) w a:=by
 have h1:=z.st;have h2:=z.cd;have h3:=h.env.ng;obtain⟨G,I,y,h4,-⟩:=h.env.gl;obtain⟨sv,kc,d,-⟩:=h.gG;obtain⟨-,-,A,-,-⟩:=h.Ar;simp only[eM]at d;rw[y]at d;have h5:=lH m 35;have h6:=lH m 36;obtain⟨S,l⟩:=bL (λa=>a.cell? ⟨E.bb,0,H⟩=M (aj E.rb)/\a.cell? ⟨E.bb,2,H⟩=M (Q G E.c.gl.length I):Yw->Prop);have B:∀W,Kp (one E.rb) w W->S W:=λW k=>by
  rw[l];have:=(ae (k.az d A)).1;exact⟨this 0,this 2⟩
 go_enter func264,ntmps264;go_wp2_with fail;refine rj 15 15 (S) ?hS λhS=>?_
 case hS=>exact B _ fL
 have l:=l;subst l;refine tj 0 ?_;iterate 8 refine tn ?_
 refine oj 9 λK a=>?_
 refine sc (fM (h.quiet ((Kp.refl no w).drew)).rd E.c.gl.length Y Y) ?_;rintro r q⟨hg,k1⟩;obtain⟨v,f,rfl,p⟩:=hg.hO;have k:=((Kp.refl _ w).drew).trans k1;have C:=h.jF k;refine⟨_,U,a _ _ (B _ k) (λhS=>?_)⟩;simp only[pS];refine tj 10 ?_;iterate 4 refine tn ?_
 refine dj ?_;have c:dn E.c m s=dn E.c m s:=rfl;conv at c=>rhs;unfold dn
 cases J:bp E.c.D E.c.gl.length s.i with
 |error e=>
  rw[J]at p c;obtain⟨rfl,b,rfl,a⟩:=p;change Hid _ at c;go_wp2;go_ret;exact Done.bad c ⟨b,U,a⟩ cQ C
 |ok x=>
  obtain⟨n,j⟩:=x;rw[J]at p c;obtain⟨rfl,rfl,hr⟩:=p;have e:=h.read k hr;have hn:=(cz J).1;have z0:=z.read j s.pos s.aR;obtain⟨h7,h8⟩:=ae (k.az d A);obtain⟨ad,h9,p,_,L⟩:=e.env.gl;obtain⟨a,o,rfl,-,hp,hs⟩:=L n Y;rw[y]at p;cases p;simp only at c;generalize E.c.gl.getD n (0,Yj)=gg at *;obtain⟨t,P⟩:=gg;have k0:(n:Int)<E.c.gl.length:=Y
  simp only at c hp hs;have R:=Z c;rcases F with rfl |rfl
  .have u:=Z (e.guard ((Kp.refl no q).alloc (Yl #[V Ys t.toNat,Yt P] 256)) (one q.heap.size) (λb (T:b=_)=>by subst T;simp));go_wp2_with fail;refine(eT u ⟨35,n,0,0,0⟩ (by simp only;omega)).bw ?_;rintro b⟨X,T⟩;obtain⟨h0,k2⟩:=ae (T.az (ai q _) (λhn=>hn (Yp U)));have K4:=Z (Kp.trans (Kp.alloc (Kp.refl (fy (E.plus (one q.heap.size)).ro) q) _) T);go_wp2_with fail;refine(og (X.quiet ((Kp.refl no b).alloc (Yl #[V Ys t.toNat] 5))) (sZ b t) (by simp only;omega) Vc).bw ?_;rintro w5⟨k3,k5⟩;have W:=Z ((K4.alloc _).trans k5);have H5:=Z (k3.cV (e.env.kp W.cV));go_wp2;go_ret;exact Done.ok R H5 (C.trans W.cV)
  .have u:=Z (e.quiet ((Kp.refl no q).alloc (Yl #[V Ys t.toNat,Yt P] 256)));cases P
   .have T:=Z (C.alloc (Yl #[V Ys t.toNat,Yt Yj] 256));go_wp2_with fail;refine(eB R u U T).mono ?_;rintro _ _⟨v,rfl,b⟩;go_wp2;go_ret;exact b
   .have T:=jf u D z.bl (by simp only;omega) t;have W:=λs2 (X:cO {s with i:=j} t=M s2)=>fZ z0 X
    have c:=R.out;simp only[VK]at c;generalize cO {s with i:=j} t=Q2 at *;go_wp2_with fail;refine T.mono ?_;cases Q2 with
    |none=>
     rintro r w2⟨⟨rfl,s2,e,h0⟩,k2⟩;have K:=(C.alloc _).trans (u.dV k2);go_wp2_with fail;refine(eB c e h0.pos K).mono ?_;rintro _ _⟨v,rfl,b⟩;go_wp2;go_ret;exact b
    |some b=>
     rintro r w2⟨⟨rfl,X⟩,k2⟩;have K:=(W b U).cd;have K2:=Z ((C.alloc _).trans (u.dV k2));go_wp2_with fail;refine(eT X ⟨36,n,0,0,0⟩ Y).bw ?_;rintro w3⟨h0,k3⟩;have K3:=Z (K2.trans k3);go_wp2;go_ret;exact Done.ok c h0 K3
end
section
variable{E:ez}{g N:Nat}{w:World}{s:Bd}
def RY(h:cU E g w s)(a:s.ao.length<=1000000):fX 278 #[aj E.bb] w (V O s.ao.length):=by
 obtain⟨b,d,e,f,i,h⟩:=h;obtain⟨j,-⟩:=ae h.body;obtain⟨k,-⟩:=ae h.mod;obtain⟨l,c,rfl⟩:=aA h.ao;clear h;go_enter func278,ntmps278;go_wp2;go_ret;exact⟨U,U⟩
theorem OG(h:cU E g w s)(z:Sz N s)(hN:N<=500000)(k7:s.af≠[])(q:UInt8):Calls prog 255 #[aj E.bb,.int .u8 q.toNat] w λr w'=>Done E w w' (lQ E.c q s) r/\Kp (fy E.ro) w w':=by
 have e2:=z.st;have e3:=z.cd;have k8:=z.bl;have hl:0<s.af.length:=Vs.2 k7;have h3:=nA h.rd ⟨#[127,126,64]⟩ [127,126,64] U;have S:=λW=>GD q W
 obtain⟨D,T⟩:∃D:Nat,D=if q=3 then 2 else if q=4 then 3 else 1:=⟨_,U⟩
 rw[<-T]at S;obtain⟨i0,k9,w0,w1,w2⟩:=info_parts GJ;obtain⟨sv,kc,h6,ad,x8,rfl⟩:=h.gG;obtain⟨cv,e4,e5,x9,H2⟩:=h.Ar;obtain⟨hc,hf⟩:=ae h6;have q4:((q.toNat:Int)==4)=(q==4):=lH q 4;have a:=Z h;have e6:=Z (λj=>z.read j s.pos s.aR);clear h e4 z;change Hid _ at S T;replace h3:=Z h3;change Hid _ at h6;go_enter func255,ntmps255;go_wp2_with fail;refine h3.out.mono ?_;cases hq:bP E.c.D [127,126,64] s.i with
 |error e=>
  rintro r x7⟨⟨fv,j,rfl,⟨fb,rfl,hF⟩,k4⟩,k6⟩;clear k4;change Hid _ at hF;go_wp2;go_ret;exact Done.bad (by unfold lQ;rw[hq]) ⟨fb,U,hF.out⟩ (VP _) (a.out.jF k6)
 |ok x=>
  obtain⟨t,j⟩:=x;rintro r x7⟨⟨v,rfl,rfl,k4⟩,k6⟩;have H0:=Z (a.out.read k6 k4);have K1:=Z (a.out.jF k6);obtain⟨e7,e8⟩:=ae (k6.az h6.out e5);have l:lQ E.c q s=lQ E.c q s:=rfl;conv at l=>rhs;unfold lQ
  rw[hq]at l;simp only at l;rw[<-T.out]at l;have h0:=Z l;clear k4 k6 hc hf l hq T;refine(X5 (q=4)).elim (λh4=>?za) (λh4=>?zb);case' za=>
   have b4:(q==4)=true:=by simpa using h4
   rw[b4]at q4;have l:=h0.out;simp only[Vi h4]at l;clear h0 b4 h4;have HT:=Z (jf H0.out k7 k8 (by simp only;omega) 127);have w3:=λs2 (C:cO {s with i:=j} 127=some s2)=>(And.intro (fZ (e6.out j) C) (eA C))
   go_wp2_with fail;refine HT.out.mono ?_;rcases(show cO {s with i:=j} 127=none\/ ∃d,cO {s with i:=j} 127=some d by cases cO {s with i:=j} 127<;>simp)with hQ|⟨d,hQ⟩
   .rw[hQ]at l⊢;clear hQ;change Hid _ at l;rintro r f⟨⟨rfl,s2,C,w4⟩,w5⟩;have hp:s2.pos=s.pos:=w4.pos;have K2:=Z (K1.out.trans (H0.out.dV w5));have HW:=Z (ia C);clear C w5 w4;go_wp2_with fail;refine HW.out.mono ?_;rintro e H3⟨⟨fv,rfl,hF⟩,e9⟩;rw[hp]at hF;obtain⟨fb,rfl,F⟩:=hF;change Hid _ at F;go_wp2;go_ret;exact Done.bad l.out ⟨fb,U,F.out⟩ K2.out.size (K2.out.trans e9.any)
   obtain⟨zz,zs⟩:=w3 d hQ;rw[hQ]at l⊢;rintro r f⟨⟨rfl,C⟩,w5⟩;have HK:=Z (K1.out.trans (H0.out.dV w5));have H1:=Z C;have s0:=zz.st;have s1:=zz.cd;have s3:=zz.bl;have HP:=Z (show d.pos=s.pos from zs.pos);have s4:0<d.af.length:=by rw[zs.len];exact hl
   let hh:Nat:=d.stack.length
   clear w5 zz zs w3 hQ HT
  case' zb=>
   have b4:(q==4)=false:=by simpa using h4
   rw[b4]at q4;have l:=h0.out;obtain⟨d,p⟩:∃d:Bd,d={s with i:=j}:=⟨_,U⟩;have C:=H0.out;rw[<-p]at C;rw[Va h4,<-p]at l;simp only[Va h4]at l;clear h0 b4 h4;have s0:d.stack.length<=N:=by rw[p];exact e2
   have s1:d.ao.length<=N:=by rw[p];exact e3
   have s3:d.af.length<=17:=by rw[p];exact k8
   have HP:=Z (show d.pos=s.pos by rw[p]);have s4:0<d.af.length:=by rw[p];exact hl
   obtain⟨f,hw⟩:∃f,f=x7:=⟨_,U⟩;subst hw;have HK:=K1;have H1:=Z C;let hh:Nat:=0;clear p
  all_goals
   try simp only at l
   obtain⟨H4,H5,w6,w7,w8,rfl⟩:=C.gG;obtain⟨H6,H7⟩:=ae w6;clear w6 C e7 e8;by_cases h1:d.af.length-1=16
   .simp only[Vi h1]at l;have hq:((d.af.length:Int)-1==16)=true:=Vd
    clear h1;change Hid _ at l;go_wp2_with fail;refine(ia H1.out).mono ?_;rintro e H3⟨⟨fv,rfl,hF⟩,e9⟩;rw[HP.out]at hF;obtain⟨fb,rfl,F⟩:=hF;change Hid _ at F;go_wp2;go_ret;exact Done.bad l.out ⟨fb,U,F.out⟩ HK.out.size (HK.out.trans e9.any)
   .simp only[Va h1]at l;have hq:((d.af.length:Int)-1==16)=false:=Vd
    have h2:((t.toNat:Int) !=64)= !(t==64):=mY t 64;have h7:=λW (k4:cU E g W d)=>RY k4 Y
    clear h1;change Hid _ at h7;by_cases B:t=64
    .have G:(t==64)=true:=by simpa using B
     rw[G]at h2;rw[Vi B]at l;simp only[X0]at h2;clear B G;change Hid _ at l;go_wp2_with fail;go_region_held3 (λw'=>w'.cell? ⟨E.bb,4,none⟩=some (.slice w7 d.stack.length w8)) (go_keep) (first |(go_at_call 277;refine(S.out _).mono ?_;rintro e wk⟨rfl,rfl⟩)|(go_at_call 278;refine(h7.out _ (H1.out.quiet (by repeat' first |exact Kp.refl _ _|apply Kp.drew|apply Kp.drewN|apply Kp.alloc))).mono ?_;rintro e f⟨rfl,rfl⟩));all_goals
      go_wp2_with fail;refine(eT (E:=E.plus (one f.heap.size)) (H1.out.guard (by repeat' first |exact Kp.refl _ _|apply Kp.drew|apply Kp.drewN|apply Kp.alloc) (one f.heap.size) (by intro b hb;cases hb;constructor <;>simp <;>omega)) ⟨q,0,0,hh,0⟩ Y).bw ?_;rintro A⟨h5,k5⟩;have I:=k5.az (k:=f.heap.size) (o:=.cells #[.int .i64 D,.slice none 0 0,.int .i64 d.stack.length,.int .i64 ((d.ao.length:Int)+1),.slice none 0 0] 298) (ah (ai f _)) (λhn=>hn (.inr U));obtain⟨s5,s6⟩:=ae I;have u:aq A (.slice none 0 0) ([]):=aq.nil A;have h8:=Z (Kp.trans (show Kp (fy (E.plus (one f.heap.size)).ro) f _ from(by repeat' first |exact Kp.refl _ _|apply Kp.drew|apply Kp.drewN|apply Kp.alloc)) k5);obtain⟨s7,s8,s9,m,⟨x0,x1,h9⟩,J,K,L⟩:=h5.push;subst h9;obtain⟨x2,x3⟩:=ae m;have x4:E.bb<A.heap.size:=au m;have x5:E.B<=A.heap.size:=h5.env.base;have k0:=Z (λ(X:Obj)=>(ae (ah (o:=X) m)).1 5);have k1:=Z (λ(X:Obj)=>(ae (ah (o:=X) m)).2 5);clear k5 m I;replace h5:=Z h5;replace u:=Z u;change Hid _ at K L;go_wp2_with fail;go_region_law ((refine bJ _ Vg _ _ _ Vg E.B 298 i0 _ 5 72 underlying261 k9 w0 w1 w2 U Y _ d.af.length _ Vg (K.out _ (by repeat' first |exact Kp.refl _ _|apply Kp.drew|apply Kp.drewN|apply Kp.alloc)) (.slice (some ⟨A.heap.size,0,none⟩) 1 1) 1 [.int .i64 D,.slice none 0 0,.int .i64 d.stack.length,.int .i64 ((d.ao.length:Int)+1),.slice none 0 0] Vg (aw.lq U #[.int .i64 D,.slice none 0 0,.int .i64 d.stack.length,.int .i64 ((d.ao.length:Int)+1),.slice none 0 0] _ 1 5 U) (by simp[Value.oneCell']) (by simp only[maxLen];omega) Y Vd ?_;intro v1 H9 y n P;obtain⟨g1,x6,rfl,-,-⟩:=y.form Y;have k2:=(n.cell_far ⟨E.bb,5,none⟩ Vd J).trans (k0.out _);have k3:=(n.frozen_far ⟨E.bb,5,none⟩ Vd J).trans (k1.out _)));all_goals
       obtain⟨w9,e0⟩:=L.out ⟨D,[],d.stack.length,d.ao.length+1,[]⟩ (.slice none 0 0) _ _ _ _ _ _ U (show Kp no A _ from(by repeat' first |exact Kp.refl _ _|apply Kp.drew|apply Kp.drewN|apply Kp.alloc)) (u.out.kp (show Kp no A _ from(by repeat' first |exact Kp.refl _ _|apply Kp.drew|apply Kp.drewN|apply Kp.alloc)) (λ_ _ h=>h)) (λc hc=>by cases hc) U (by simp[fH]) y n P;have R:=Z (h8.out.trans e0);have H8:=Z (w9.cV (H1.out.env.kp R.out.cV));clear w9 e0 y n P k2 k3;go_wp2;go_ret;rw[l.out];exact⟨⟨U,g1,H8.out⟩,HK.out.trans R.out.cV⟩
    .have G:(t==64)=false:=by simpa using B
     rw[G]at h2;rw[Va B]at l;simp only[XO]at h2;clear B G;change Hid _ at l;go_wp2_with fail;go_region_held3 (λw'=>w'.cell? ⟨E.bb,4,none⟩=some (.slice w7 d.stack.length w8)) (go_keep) (first |(go_at_call 277;refine(S.out _).mono ?_;rintro e wk⟨rfl,rfl⟩)|(go_at_call 278;refine(h7.out _ (H1.out.quiet (by repeat' first |exact Kp.refl _ _|apply Kp.drew|apply Kp.drewN|apply Kp.alloc))).mono ?_;rintro e f⟨rfl,rfl⟩));all_goals
      go_wp2_with fail;refine(eT (E:=E.plus (λb=>b=f.heap.size\/b=f.heap.size+1)) (H1.out.guard (by repeat' first |exact Kp.refl _ _|apply Kp.drew|apply Kp.drewN|apply Kp.alloc) (λb=>b=f.heap.size\/b=f.heap.size+1) (by intro b hb;rcases hb with hb|hb<;>subst hb<;>constructor <;>simp <;>omega)) ⟨q,0,0,hh,0⟩ Y).bw ?_;rintro A⟨h5,k5⟩;have I:=k5.az (k:=f.heap.size) (o:=.cells #[.int .i64 D,.slice (some ⟨f.heap.size+1,0,none⟩) 1 1,.int .i64 d.stack.length,.int .i64 ((d.ao.length:Int)+1),.slice none 0 0] 298) (ah (ah (ai f _))) (λhn=>hn (.inr (.inl U)));obtain⟨s5,s6⟩:=ae I;have e1:=k5.az (k:=f.heap.size+1) (o:=.cells #[.int .u8 t.toNat] 5) (ah (by have:=ai (f.alloc (.cells #[.int .i64 D,.slice (some ⟨f.heap.size+1,0,none⟩) 1 1,.int .i64 d.stack.length,.int .i64 ((d.ao.length:Int)+1),.slice none 0 0] 298)) (.cells #[.int .u8 t.toNat] 5);simpa using this)) (λhn=>hn (.inr (.inr U)));have u:aq A (.slice (some ⟨f.heap.size+1,0,none⟩) 1 1) ([t]):=aw.Cd e1 1 1 U;clear e1;have h8:=Z (Kp.trans (show Kp (fy (E.plus (λb=>b=f.heap.size\/b=f.heap.size+1)).ro) f _ from(by repeat' first |exact Kp.refl _ _|apply Kp.drew|apply Kp.drewN|apply Kp.alloc)) k5);obtain⟨s7,s8,s9,m,⟨x0,x1,h9⟩,J,K,L⟩:=h5.push;subst h9;obtain⟨x2,x3⟩:=ae m;have x4:E.bb<A.heap.size:=au m;have x5:E.B<=A.heap.size:=h5.env.base;have k0:=Z (λ(X:Obj)=>(ae (ah (o:=X) m)).1 5);have k1:=Z (λ(X:Obj)=>(ae (ah (o:=X) m)).2 5);clear k5 m I;replace h5:=Z h5;replace u:=Z u;change Hid _ at K L;go_wp2_with fail;go_region_law ((refine bJ _ Vg _ _ _ Vg E.B 298 i0 _ 5 72 underlying261 k9 w0 w1 w2 U Y _ d.af.length _ Vg (K.out _ (by repeat' first |exact Kp.refl _ _|apply Kp.drew|apply Kp.drewN|apply Kp.alloc)) (.slice (some ⟨A.heap.size,0,none⟩) 1 1) 1 [.int .i64 D,.slice (some ⟨f.heap.size+1,0,none⟩) 1 1,.int .i64 d.stack.length,.int .i64 ((d.ao.length:Int)+1),.slice none 0 0] Vg (aw.lq U #[.int .i64 D,.slice (some ⟨f.heap.size+1,0,none⟩) 1 1,.int .i64 d.stack.length,.int .i64 ((d.ao.length:Int)+1),.slice none 0 0] _ 1 5 U) (by simp[Value.oneCell']) (by simp only[maxLen];omega) Y Vd ?_;intro v1 H9 y n P;obtain⟨g1,x6,rfl,-,-⟩:=y.form Y;have k2:=(n.cell_far ⟨E.bb,5,none⟩ Vd J).trans (k0.out _);have k3:=(n.frozen_far ⟨E.bb,5,none⟩ Vd J).trans (k1.out _)));all_goals
       obtain⟨w9,e0⟩:=L.out ⟨D,[t],d.stack.length,d.ao.length+1,[]⟩ (.slice (some ⟨f.heap.size+1,0,none⟩) 1 1) _ _ _ _ _ _ U (show Kp no A _ from(by repeat' first |exact Kp.refl _ _|apply Kp.drew|apply Kp.drewN|apply Kp.alloc)) (u.out.kp (show Kp no A _ from(by repeat' first |exact Kp.refl _ _|apply Kp.drew|apply Kp.drewN|apply Kp.alloc)) (λ_ _ h=>h)) (λc hc=>by cases hc;exact .inr (.inr U)) U (by simp[fH]) y n P;have R:=Z (h8.out.trans e0);have H8:=Z (w9.cV (H1.out.env.kp R.out.cV));clear w9 e0 y n P k2 k3;go_wp2;go_ret;rw[l.out];exact⟨⟨U,g1,H8.out⟩,HK.out.trans R.out.cV⟩
end
end
end Go.Proofs.YtdeplgkhmebalaaGreatDoor
namespace Go.Proofs.YtdeplgkhmebalaaGreatDoor
open Bool renaming false->Yj,true->Yk
open Except renaming error->Ym,ok->Yn
open Go renaming Calls->Yy,Value->Yx,World->Yw
open Go.Ending renaming returned->Yq
open Go.IntKind renaming i64->O,u64->Yr,u8->Ys
open Go.Obj renaming cells->Yl
open Go.Value renaming bool->Yt,int->V,pointer->Yv,slice->Q,tuple->Yu
open Option renaming none->H,some->M
open Or renaming inl->Yo,inr->Yp
open Proofs.Tryz
open Go.RowKit
section
variable{E:ez}{g N:Nat}{w:World}{s:Bd}
def cU.abe(h:cU E g w s)(z:k<s.af.length)(R:(s.bk k).aH<=s.stack.length):∃b a i f,w.heap[E.bb]?=M (eM E g s (Q b s.stack.length a) i)/\s.stack.length<=a/\(b=H->a=0)/\
  w.cell? ⟨g,k*5+2,H⟩=M (V O (s.bk k).aH)/\w.cell? ⟨g,k*5+1,H⟩=M f/\aq w f (s.bk k).aL/\g≠E.bb/\M E.bb≠(Value.slice b (s.bk k).aH a).ownBlock/\M g≠(Value.slice b (s.bk k).aH a).ownBlock/\
  (∀W,Kp no w W->W.ownsRow E.B 5 1 (Q b (s.bk k).aH a) (s.bk k).aH ((s.stack.take (s.bk k).aH).map λc=> V Ys c.toNat))/\
  (∀W e d m xs,Kp no w W->m=(s.bk k).aH+(s.bk k).aL.length->xs=((s.stack.take (s.bk k).aH).map λc=> V Ys c.toNat)++((s.bk k).aL.map λc=> V Ys c.toNat)->e.ownsRow E.B 5 1 d m xs->W.grownBy e (Value.slice b (s.bk k).aH a).ownBlock->(d.ownBlock=(Value.slice b (s.bk k).aH a).ownBlock\/d.ownBlock=M W.heap.size)->
   cU E g (e.setCell ⟨E.bb,4,H⟩ d) {s with stack:=s.stack.take (s.bk k).aH++(s.bk k).aL}/\Kp (fy E.ro) w (e.setCell ⟨E.bb,4,H⟩ d)):=by
 obtain⟨A,x,S,i,T,h⟩:=h;obtain⟨f,X,j,h1,B,C,h4,h5⟩:=h.bk z;obtain⟨b,a,c,l,p⟩:∃b a,x= Q b s.stack.length a/\s.stack.length<=a/\(b=H->a=0):=by
  obtain⟨e1,⟨rfl,e3⟩|⟨y,r,d,rfl,-,-,D,-⟩⟩:=h.stack<;>grind
 have F:∀n,(Value.slice b n a).ownBlock=x.ownBlock:=by intro n;rw[c];cases b<;>rfl
 refine⟨b,a,i,f,by grind[bT.body],l,p,C,B,h.results k _ j,λe=>?_,λe=>?_,λe=>?_,?_,?_⟩
 .grind[bT.r5,bT.r3]
 .grind[bT.r4,bT.r3]
 .grind[bT.r4,bT.r5]
 .intro W G;have I:=G.own h.stack bW;have J:(s.stack.take (s.bk k).aH).length=(s.bk k).aH:=Vd
  obtain⟨e1,⟨e2,e3⟩|⟨y,r,d,e,K,L,D,hm,t,ht⟩⟩:=I
  .rw[c]at e2;simp only[Vz]at e2;obtain⟨rfl,-,rfl⟩:=e2;have u:(s.bk k).aH=0:=Y
   rw[u];exact⟨Vc,Yo ⟨Vc,Vc⟩⟩
  .rw[c]at e;simp only[Vz]at e;obtain⟨rfl,-,rfl⟩:=e;refine⟨Vd,Yp ⟨y,a,d,U,K,L,Y,hm,t,?_⟩⟩;grind[List.map_take]
 grind[Cz]
theorem cU.fe(h:cU E g w s):∃c a,w.heap[E.bb]?=M (eM E g s c a)/\(∃e b,c= Q e s.stack.length b)/\s.af.length<=a/\ ∀n W,n<=s.af.length->Kp no w W->cU E g (W.setCell ⟨E.bb,5,H⟩ (Q (M ⟨g,0,H⟩) n a)) {s with af:=s.af.take n}/\Kp (one E.bb) w (W.setCell ⟨E.bb,5,H⟩ (Q (M ⟨g,0,H⟩) n a)):=by
 obtain⟨f,c,i,a,j,h⟩:=h;have d:s.af.length<=a:=by
  obtain⟨e,b,k,l⟩:=(aw.own h.af).aJ;grind
 exact⟨c,a,h.body,aA h.stack,d,λn W b e=>RX h b e⟩
def lS.back(k:Kp (lS E W) W X)(h:cU E g W s)(d: ¬lS E W E.mb)(e:lS E X b):lS E W b:=by
 obtain⟨f,a,-⟩:=h.Ar;have i:=(ae a).1 3;obtain⟨n,c,j⟩:=e;have l:X.cell? ⟨E.mb,3,H⟩=M f:=k.cell (p:=⟨E.mb,3,H⟩) i d;rw[l]at j;exact⟨n,c,Ve⟩
theorem UO(h:cU E g w s)(z:Sz N s)(hN:N<=500000)(w1:s.af≠[])(h0:nB s (s.af.length-1)=Yk)(h1: ¬(s.top.bq=3/\s.top.aL≠[])):Yy prog 257 #[aj E.bb] w λr a=>Done E w a (kQ s) r/\Kp (fy E.ro) w a:=by
 have hl:0<s.af.length:=Vs.2 w1;have d:s.af.length-1<s.af.length:=Y
 have w2:s.top=s.bk (s.af.length-1):=rfl;obtain⟨c,f⟩:∃c,c=if s.top.bq=3 then dZ s (s.top.start-1)else s:=⟨_,U⟩
 obtain⟨s2,F⟩:=bL (cC s.top.waits c);obtain⟨G,i⟩:∃G,G=if s.top.bq=0 then bo s2 ⟨11,0,0,0,0⟩else s2:=⟨_,U⟩
 have e1:c.stack=s.stack/\c.af=s.af/\c.ao.length=s.ao.length/\c.pos=s.pos:=by rw[f];split <;>exact⟨U,U,by first |rfl |simp[dZ],U⟩
 have e2:s2.stack=s.stack/\s2.af=s.af/\s2.ao.length=s.ao.length:=by
  obtain⟨a,b,-,-,-,a6⟩:=mq s.top.waits c;rw[F];exact⟨a.trans e1.1,b.trans e1.2.1,a6.trans e1.2.2.1⟩
 have e3:G.stack=s.stack/\G.af=s.af:=by rw[i];split <;>exact⟨e2.1,e2.2.1⟩
 have hM:kQ s= Yn {G with stack:=s.stack.take s.top.aH++s.top.aL,af:=s.af.take (s.af.length-1),aR:=Yj}:=by
  unfold kQ;rw[Va (by simp only[h0];simpa using h1)];simp only;rw[<-f,<-F,<-i,e3.1,e3.2]
 have K2:=z.st;have K3:=z.bl;have K4:=z.cd;have hw:=z.wt _ d;have h2:=z.aH d;have w3:=jL h w1 Y;have h3:=λW (b:Kp no w W)=>sX (h.quiet b) (k:=s.af.length-1) d h2 Y
 rw[h0]at h3;rw[<-w2]at hw h2;have I:∀t:Bd,t.af=s.af->t.bk (s.af.length-1)=s.top:=λt ht=>by unfold Bd.top Bd.bk;rw[ht]
 have w4:∀W,Kp no w W->W.cell? ⟨g,(s.af.length-1)*5,H⟩=M (V O s.top.bq)/\W.cell? ⟨g,(s.af.length-1)*5+3,H⟩=M (V O s.top.start)/\ ∃J K,W.cell? ⟨g,(s.af.length-1)*5+1,H⟩=M (Q J s.top.aL.length K):=by
  intro W b;obtain⟨rv,wv,e,j,-⟩:=h.Jc d;obtain⟨a,r,-,C,-,-⟩:=e W b;obtain⟨J,K,l,-⟩:=j.aJ;rw[l]at r;exact⟨a,C,J,K,r⟩
 have w5:=λW (a:cU E g W s) (b:s.top.start-1<s.ao.length)=>El a (n:=s.top.start-1) b Y
 have L:=λW (a:cU E g W c)=>a.Jd (k:=s.af.length-1) (by rw[e1.2.1];exact d)
 rw[I c e1.2.1]at L;have w6:=λW k n (a:cU E g W (cC (s.top.waits.take k) c)) (b:n<s.ao.length)=>El a (n:=n) (by rw[(mq _ c).2.2.2.2.2,e1.2.2.1];exact b) (by rw[(mq _ c).2.2.2.2.2,e1.2.2.1];omega)
 have w7:=λW (a:cU E g W s2)=>eT a ⟨11,0,0,0,0⟩ (by rw[e2.2.2];omega)
 have h4:=λW (a:cU E g W G)=>a.abe (k:=s.af.length-1) (by rw[e3.2];exact d) (by rw[I G e3.2,e3.1];exact h2)
 rw[I G e3.2,e3.1]at h4;have w8:∀k,k<s.top.waits.length->s.top.waits.getD k 0<s.ao.length:=λk hk=>hw.2.2.2.1 _ (by simp[List.getD,Vj hk])
 have u:∀k,k<s.top.waits.length->cC (s.top.waits.take (k+1)) c=dZ (cC (s.top.waits.take k) c) (s.top.waits.getD k 0):=λk hk=>by
  rw[List.take_add_one,cC,List.foldl_append];simp[Vj hk,cC]
 have w9:cC (s.top.waits.take s.top.waits.length) c=s2:=by rw[Wh,F]
 have K0:cC (s.top.waits.take 0) c=c:=rfl;have e0:1<=s.top.start/\s.top.start<=s.ao.length\/s.top.bq≠3:=(X5 (s.top.bq=3)).imp hw.2.2.2.2 id;obtain⟨i0,e4,e5,e6,e7⟩:=info_parts lj;have HI:=Z w3;have s9:=Z u;have hB:=h.env.base;have K5:=hw.1;have K6:=hw.2.1;have K7:=hw.2.2.1;clear w3 u F e1 e2 w2 I z hw h0;change Hid _ at h3 w4 w5 L w6 w7 h4 hM w8 w9 K0 f i e3;replace h:=Z h;generalize s.top.waits=ws at *;generalize s.top.aH=ht at *;generalize s.top.start=sr at *;generalize s.top.aL=r at *;generalize s.top.bq=kd at *;rcases(show(kd=3/\r=[])\/kd=0\/(kd≠3/\kd≠0)by
  by_cases a:kd=3
  .exact Yo ⟨a,XC λb=>h1 ⟨a,b⟩⟩
  .omega)with⟨rfl,e8⟩|rfl |y
 all_goals
  first
   |(have A: ¬((0:Int)<(r.length:Int)):=by rw[e8];simp
     have B:1<=sr/\sr<=s.ao.length:=e0.resolve_right (λe=>e U);have l:((sr:Int)-1)=((sr-1:Nat):Int):=Y
     have t:=Z l;have e:=Z (f.trans (Vi U));have j:=Z (i.trans (Va Vb));clear l e8)
   |(have l:((kd:Int)==3)=false:=by have:=y.1;simp;omega
     have A:((kd:Int)==0)=false:=by have:=y.2;simp;omega
     have e:=Z (f.trans (Va y.1));have j:=Z (i.trans (Va y.2));clear y)
   |(have e:=Z (f.trans (Va Vb))
     have j:=Z (i.trans (Vi U)))
  clear e0 h1 f i;go_enter func257,ntmps257;go_wp2_with fail;refine HI.bw ?_;rintro K8 x0;have x1:=Z (h3 K8 x0);change Hid _ at x0;go_wp2_with fail;refine x1.bw ?_;rintro s8 K1;have HK:=Z (x0.trans K1);obtain⟨h5,x2,J,K,x3⟩:=w4 s8 HK;have H2:=Z (h.quiet HK);clear K1;first
   |(have R:=Z (w5 s8 H2 Y)
     go_wp2_with fail;rw[t.out];refine R.bw ?_;rintro t⟨l,S⟩;have T: ¬lS E s8 g:=by obtain⟨wv,-,-,-,-,W,-⟩:=H2.Jd (k:=s.af.length-1) d;exact W
     have A:=S.cell (p:=⟨g,(s.af.length-1)*5,H⟩) h5 T;rw[<-e.out]at l;have B:=Z l;have D:=Z (Kp.trans HK.any (H2.Je S));clear l S)
   |(obtain⟨t,R⟩:∃t,t=s8:=⟨_,U⟩
     subst R;have l:=H2.out;rw[<-e.out]at l;have B:=Z l;have D:Hid (Kp (fy E.ro) w t):=Z HK.any;have A:=h5;clear l)
  clear h5 x2 x3;obtain⟨wv,x4,R,e9,h6,x5,x6⟩:=L _ B;obtain⟨K9,W0,rfl,W1⟩:=R.aJ;clear x5 x6;replace h6:=Z h6;change Hid _ at e9;replace R:=Z R;go_wp2;go_loopw [46] (λe wr=> ∃k:Nat,k<=ws.length/\e= V O k/\cU E g wr (cC (ws.take k) c)/\Kp (lS E t) t wr) (λe _=>ws.length - (intOf e).toNat);case atStart=>exact⟨0,VB _,U,by rw[K0.out];exact B,iR⟩
  case round=>
   obtain⟨k,hk,rfl,S,t⟩:=hrel;change Hid _ at t;replace S:=Z S;by_cases h7:k<ws.length
   .obtain⟨a,o,h8,X,_,h9⟩:=aw.get (R.kp t (λb l e=>e9 b l e)) (k:=k) (x:= V O (ws.getD k 0:Nat)) (by simp[List.getD,Vj h7]);simp only[Vz]at X;obtain⟨rfl,-,rfl⟩:=X;have e:=w6 wr k _ S (w8 k h7);have u:=s9 k h7;generalize ws.getD k 0=q at *;change Hid _ at u;replace e:=Z e;go_wp2_with fail;refine e.bw ?_;rintro k0⟨C,k4⟩;have T:=Z (t.trans (k4.mono (λb _ l=>l.back t B h6)));clear k4;replace C:=Z C;go_wp2;go_roundw;case rel=>exact⟨k+1,Y,by go_num,by rw[u.out];exact C,T⟩
    case measure=>simp[intOf];omega
   .obtain rfl :k=ws.length:=Y
    have s0:=S.out;rw[w9.out]at s0;have s1:=Z (D.trans (B.Je t));have x7:=t.cell (p:=⟨g,(s.af.length-1)*5,H⟩) A (by obtain⟨wv,-,-,-,-,W,-⟩:=L _ B;exact W);clear x4 A;replace s0:=Z s0;first
     |(have l:=Z (w7 wr s0)
       go_wp2_with fail;refine l.bw ?_;rintro C⟨b,A⟩;have e:cU E g C G:=by rw[j.out];exact b
       have B:=Z e;have T:=Z (s1.trans A);clear b e A x7)
     |(obtain⟨C,e⟩:∃C,C=wr:=⟨_,U⟩
       subst e;have b:=s0.out;rw[<-j.out]at b;have B:=Z b;have T:=s1;clear b)
    obtain⟨ad,x8,kc,rv,W,W2,h8,W3,W4,A,W5,n1,n2,h9,k0⟩:=h4 _ B;simp only[eM,e3.2]at W;obtain⟨s3,s4⟩:=ae W;obtain⟨W6,W7,rfl,-⟩:=A.aJ;have X:E.bb<C.heap.size:=au W;have s5:E.B<=C.heap.size:=cj T.size;clear W;replace A:=Z A;change Hid _ at h9 k0;go_wp2_with fail;cases ad with
    |none=>
     have x9:=h8 U;subst x9;have H0:ht=0:=Y
     subst H0;clear h8;go_region_law ((refine bJ _ Vg _ _ _ Vg E.B 5 i0 _ 1 1 underlying25 e4 e5 e6 e7 U Y _ _ _ Vg (h9 C.drew ((Kp.refl no _).drew)) _ r.length _ Vg (A.kp ((Kp.refl no C).drew) bW) (bV _) (by simp only[maxLen];omega) Y s5 ?_;intro v1 H1 e b B;obtain⟨k1,k2,rfl⟩:=aA e;have k3:=(b.cell_far ⟨E.bb,4,H⟩ (by simpa using X) n1).trans (s3 4);have k4:=(b.frozen_far ⟨E.bb,4,H⟩ (by simpa using X) n1).trans (s4 4)));all_goals
      obtain⟨D,w0⟩:=k0 _ _ _ _ _ ((Kp.refl no _).drew) U U e b B;simp only[Vv]at D w0;generalize World.setCell H1 ⟨E.bb,4,H⟩ (Q k1 r.length k2)=s6 at *;obtain⟨H3,H4,j,⟨H5,H6,k5⟩,k6,l⟩:=D.fe;subst k5;simp only[e3.2]at k6 l;simp only[eM,e3.2]at j;obtain⟨H7,H8⟩:=ae j;have k7:=Z (T.trans w0);clear w0 j e b B k3 k4;change Hid _ at l;replace D:=Z D;go_wp2_with fail;go_region;all_goals
       go_wp2;go_ret;rw[hM.out];obtain⟨s7,H9⟩:=l (s.af.length-1) s6 Y (Kp.refl no s6);obtain⟨k8,k9⟩:=gW s7 Yj;exact⟨⟨U,g,k8.quiet ((Kp.refl no _).drew)⟩,((k7.trans (D.dV H9)).trans (s7.dV k9)).drew⟩
    |some a=>
     clear h8;obtain⟨a,oa,fa⟩:=a;have x9:ht<=x8:=Y
     go_region_law ((refine bJ _ Vg _ _ _ Vg E.B 5 i0 _ 1 1 underlying25 e4 e5 e6 e7 U Y _ _ _ Vg (h9 C.drew ((Kp.refl no _).drew)) _ r.length _ Vg (A.kp ((Kp.refl no C).drew) bW) (bV _) (by simp only[maxLen];omega) Y s5 ?_;intro v1 H1 e b B;obtain⟨k1,k2,rfl⟩:=aA e;have k3:=(b.cell_far ⟨E.bb,4,H⟩ (by simpa using X) n1).trans (s3 4);have k4:=(b.frozen_far ⟨E.bb,4,H⟩ (by simpa using X) n1).trans (s4 4)))
     all_goals
      obtain⟨D,w0⟩:=k0 _ _ _ _ _ ((Kp.refl no _).drew) U U e b B;generalize World.setCell H1 ⟨E.bb,4,H⟩ (Q k1 (ht+r.length) k2)=s6 at *;obtain⟨H3,H4,j,⟨H5,H6,k5⟩,k6,l⟩:=D.fe;subst k5;simp only[e3.2]at k6 l;simp only[eM,e3.2]at j;obtain⟨H7,H8⟩:=ae j;have k7:=Z (T.trans w0);clear w0 j e b B k3 k4;change Hid _ at l;replace D:=Z D;go_wp2_with fail;go_region;all_goals
       go_wp2;go_ret;rw[hM.out];obtain⟨s7,H9⟩:=l (s.af.length-1) s6 Y (Kp.refl no s6);obtain⟨k8,k9⟩:=gW s7 Yj;exact⟨⟨U,g,k8.quiet ((Kp.refl no _).drew)⟩,((k7.trans (D.dV H9)).trans (s7.dV k9)).drew⟩
 end
 end Go.Proofs.YtdeplgkhmebalaaGreatDoor
