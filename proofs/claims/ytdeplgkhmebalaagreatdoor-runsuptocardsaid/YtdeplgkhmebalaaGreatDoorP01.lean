/- A call that gives a value: short words for it. -/
import Derived.Test.YtdeplgkhmebalaaGreatDoorP00
import Derived.WalkSpells
import Derived.WalkLawsBesides
import Derived.BigQuiet
import Derived.Deep.DeepCutAuto
import Derived.Deep.CutBlock
import Derived.Deep.Light
import Derived.Deep.RegionHeld3
import Derived.Deep.AppendLies
import Derived.Deep.DrawnRows
import Derived.Shelf.Abstract
import Derived.Lib.AppendZerosOnto
set_option linter.all false
set_option maxHeartbeats 1000000
set_option maxRecDepth 100000
variable{W:Go.World}{k i b t j N q B c d m o p r:Nat}{u z:Go.Value}{y:Int}{D:List UInt8}{I:List Int}{F:List Go.Value}{R:Nat->Prop}{T:Go.TypeId}
namespace Go.Proofs.YtdeplgkhmebalaaGreatDoor
open Bool renaming false->Yj,true->Yk
open Except renaming error->Ym,ok->Yn
open Go renaming Calls->Yy,Value->Yx,World->Yw
open Go.Ending renaming returned->Yq
open Go.IntKind renaming i64->O,u64->Yr,u8->Ys
open Go.Obj renaming cells->Yl
open Go.Value renaming bool->Yt,int->V,pointer->Yv,slice->Q,tuple->Yu
open Option renaming none->H,some->M
open Or renaming inl->Yo,inr->Yp
open Proofs.Tryz
variable{x e:Oper}{G h:Act}{A:Obj}{C:Program}
section
abbrev df(f:FuncId)(a:Array Yx)(w:Yw)(v:Yx)(Q:Yw->Prop):Prop:=Yy prog f a w λr w'=>r= Yq v/\Q w'
abbrev fX(f:FuncId)(a:Array Yx)(w:Yw)(v:Yx):Prop:=Yy prog f a w λr w'=>r= Yq v/\w'=w
def _root_.Go.Calls.bw{f:FuncId}{a:Array Yx}{b:Yw->Prop}{R:Ending->Yw->Prop}(h:Yy C f a W λr c=>r= Yq u/\b c)(k:∀c,b c->R (Yq u) c):Yy C f a W R:=Calls.mono h λ_ c h=>h.1▸k c h.2
def _root_.Go.Calls.cJ{f:FuncId}{a:Array Yx}{w:Yw}{R:Ending->Yw->Prop}(h:Yy C f a w λr b=>r= Yq u/\b=W)(k:R (Yq u) W):Yy C f a w R:=Calls.mono h λ_ _ h=>h.1▸h.2▸k
end
section
open Go.RowKit
structure Kp(S:Nat->Prop)(w w':Yw):Prop where
 os:w'.os=w.os
 tape:w'.tape=w.tape
 output:w'.output=w.output
 size:w.heap.size<=w'.heap.size
 block:∀k,k<w.heap.size-> ¬S k->w'.heap[k]?=w.heap[k]?
def au(h:W.heap[k]?=M A):k<W.heap.size:=by
 grind
theorem Kp.refl(S:Nat->Prop)(w:Yw):Kp S w w:=⟨U,U,U,cQ,λ_ _ _=>rfl⟩
def Kp.comp{S1 S2:Nat->Prop}{b c:Yw}(a:Kp S1 W b)(d:Kp S2 b c)(g:∀k,k<W.heap.size->S1 k->R k)(i:∀k,k<W.heap.size->S2 k->R k):Kp R W c:=
 ⟨d.os.trans a.os,d.tape.trans a.tape,d.output.trans a.output,Vk a.size d.size,λk e f=>
  (d.block k (Vm e a.size) (λh=>f (i k e h))).trans (a.block k e (λh=>f (g k e h)))⟩
theorem Kp.trans{b c:Yw}(a:Kp R W b)(d:Kp R b c):Kp R W c:=a.comp d bW bW
theorem Kp.mono{S':Nat->Prop}{b:Yw}(h:Kp R W b)(a:∀k,k<W.heap.size->R k->S' k):Kp S' W b:=⟨h.os,h.tape,h.output,h.size,λk c d=>h.block k c (λe=>d (a k c e))⟩
def Kp.drew{b:Yw}(h:Kp R W b):Kp R W b.drew:=⟨h.os,h.tape,h.output,h.size,h.block⟩
def Kp.drewN{b:Yw}(h:Kp R W b)(n:Nat):Kp R W (b.drewN n):=⟨h.os,h.tape,h.output,h.size,h.block⟩
theorem Kp.setCell{b:Yw}(h:Kp R W b){p:Addr}(d:R p.block\/W.heap.size<=p.block)(u:Yx):Kp R W (b.setCell p u):=
 ⟨h.os,h.tape,h.output,by simpa[World.setCell]using h.size,λk a c=>(Below.heap_setCell _ _ _ _ (by
  grind)).trans (h.block k a c)⟩
def Kp.alloc{b:Yw}(h:Kp R W b)(o:Obj):Kp R W (b.alloc o):=
 ⟨h.os,h.tape,h.output,by have:=h.size;simp;omega,λk a c=>(Below.heap_alloc _ _ _ (Vm a h.size)).trans (h.block k a c)⟩
def Kp.bS{b c:Yw}{row:Option Nat}(h:Kp R W b)(g:b.grownBy c row)(f:∀k,row=M k->R k\/W.heap.size<=k):Kp R W c:=
 ⟨g.os.trans h.os,g.tape.trans h.tape,g.output.trans h.output,Vk h.size g.size,λk a d=>(g.block k (Vm a h.size) (λe=>by
  grind)).trans (h.block k a d)⟩
theorem Kp.az{a:Yw}(h:Kp R a W){o:Obj}(b:a.heap[k]?=M o)(c: ¬R k):W.heap[k]?=M o:=(h.block k (au b) c).trans b
theorem Kp.cell{b:Yw}(h:Kp R W b){p:Addr}(a:W.cell? p=M u)(c: ¬R p.block):b.cell? p=M u:=by
 grind[World.cell?,block]
def Kp.below{b:Yw}(h:Kp R W b)(c:B<=W.heap.size)(a:∀k,R k->B<=k):Below B W b:=
 ⟨h.os,h.tape,h.output,h.size,λk d=>h.block k (Vm d c) (λe=>Ve)⟩
theorem Kp.own{b:Yw}(h:Kp R W b)(f:W.ownsRow i T t u j F)(l:∀k,u.ownBlock=M k-> ¬R k):b.ownsRow i T t u j F:=by
 obtain⟨m,d⟩:=f;refine⟨m,?_⟩;rcases d with d|⟨g,a,c,e,n,o,r⟩
 .grind
 .exact Or.inr ⟨g,a,c,e,n,h.az o (l g (by rw[e];rfl)),r⟩
def Z{p:Prop}(h:p):Hid p:=h
def iR  :Kp R W W:=Kp.refl _ _
def fL  :Kp R W W.drew:=(Kp.refl _ _).drew
def oO   :Kp R W (W.alloc A):=(Kp.refl _ _).alloc _
def MV   :Kp R W (W.alloc A).drew:=((Kp.refl _ _).alloc _).drew
def lG{a b:Bool}(h:a=b):Ending.returned (Yt a)= Yq (Yt b):=by rw[h]
def no:Nat->Prop:=λ_=>False
theorem Kp.any{S:Nat->Prop}{b:Yw}(h:Kp no W b):Kp S W b:=h.mono (λ_ _ h=>h.elim)
def Kp.then{b c:Yw}(h:Kp R W b)(a:Kp no b c):Kp R W c:=h.trans a.any
def Kp.aY{b:Yw}(h:Kp no W b){p:Addr}(a:W.cell? p=M u):b.cell? p=M u:=h.cell a id
def one(b:Nat):Nat->Prop:=λk=>k=b
theorem ae{w:Yw}{a:Array Yx}(h:w.heap[b]?=M (Yl a T)):(∀o,w.cell? ⟨b,o,H⟩=a[o]?)/\(∀o,w.frozen? ⟨b,o,H⟩=Yj):=by
 grind[World.cell?,World.frozen?]
theorem heap_setCell{a:Array Yx}{c:Nat×Nat}(h:W.heap[b]?=M (Yl a T c))(v:Yx):(W.setCell ⟨b,o,H⟩ v).heap[b]?=M (Yl (a.setIfInBounds o v) T c):=by
 grind[World.setCell]
def aB(a:k≠b)(v:Yx)(h:W.heap[k]?=M A):(W.setCell ⟨b,o,H⟩ v).heap[k]?=M A:=by
 grind[Below.heap_setCell]
def ah{w:Yw}{o:Obj}(h:w.heap[k]?=M A):(w.alloc o).heap[k]?=M A:=by
 grind[Below.heap_alloc]
theorem ai(w:Yw)(o:Obj):(w.alloc o).heap[w.heap.size]?=M o:=by
 show(w.heap.push o)[w.heap.size]?=_
 simp
def Kp.bK{y:Yw}(h:Kp (one b) W y)(o:Nat)(u:Yx):Kp (one b) W (y.setCell ⟨b,o,H⟩ u):=h.setCell (p:=⟨b,o,H⟩) (Yo U) u
def Kp.bE{S:Nat->Prop}{y:Yw}(h:Kp S W y)(a:S b)(o:Nat)(u:Yx):Kp S W (y.setCell ⟨b,o,H⟩ u):=h.setCell (p:=⟨b,o,H⟩) (Yo a) u
def Kp.cq{y:Yw}(h:Kp R W y)(a:W.heap.size<=b)(o:Nat)(u:Yx):Kp R W (y.setCell ⟨b,o,H⟩ u):=h.setCell (p:=⟨b,o,H⟩) (Yp a) u
def aA(h:W.ownsRow k T i u b F):∃c a,u= Q c b a:=by
 obtain⟨-,⟨rfl,rfl⟩|⟨g,a,d,rfl,-⟩⟩:=h<;>simp
def aw(w:Yw)(v:Yx)(sz n:Nat)(xs:List Yx):Prop:=
 xs.length=n*sz/\((v= Q H 0 0/\n=0)\/ ∃a o cap,v= Q (M ⟨a,o,H⟩) n cap/\n<=cap/\ ∀k x,xs[k]?=M x->w.cell? ⟨a,o+k,H⟩=M x)
theorem aw.get(h:aw W u i b F){x:Yx}(e:F[k]?=M x):
  ∃a o c,u= Q (M ⟨a,o,H⟩) b c/\b<=c/\W.cell? ⟨a,o+k,H⟩=M x:=by
 obtain⟨f,⟨rfl,rfl⟩|⟨a,o,c,rfl,g,d⟩⟩:=h<;>grind
theorem aw.kp{S:Nat->Prop}{w':Yw}(h:aw W u i t F)(k:Kp S W w')(e:∀b,u.ownBlock=M b-> ¬S b):aw w' u i t F:=by
 obtain⟨d,⟨rfl,rfl⟩|⟨a,o,b,rfl,f,c⟩⟩:=h
 .exact⟨d,Yo ⟨U,U⟩⟩
 .exact⟨d,Yp ⟨a,o,b,U,f,λj x g=>k.cell (c j x g) (e a U)⟩⟩
def aw.kp0{w':Yw}(h:aw W u i t F)(k:Kp R W w')(e:∀b,u.ownBlock=M b->b<W.heap.size-> ¬R b):aw w' u i t F:=by
 obtain⟨d,⟨rfl,rfl⟩|⟨a,o,b,rfl,f,c⟩⟩:=h
 .exact⟨d,Yo ⟨U,U⟩⟩
 .refine⟨d,Yp ⟨a,o,b,U,f,λj x g=>k.cell (c j x g) (e a U ?_)⟩⟩;grind[World.cell?]
theorem aw.nil(w:Yw)(a:Nat):aw w (Q H 0 0) a 0 []:=⟨Vc,Yo ⟨U,U⟩⟩
theorem aw.aJ(h:aw W u k i F):∃a b,u= Q a i b/\i<=b:=by
 obtain⟨d,⟨rfl,rfl⟩|⟨a,o,b,rfl,e,c⟩⟩:=h<;>grind
theorem aw.own(h:W.ownsRow i T b u t F):aw W u b t F:=by
 obtain⟨c,⟨rfl,rfl⟩|⟨g,a,d,rfl,f,j,e,l,m,n⟩⟩:=h
 .exact⟨c,Yo ⟨U,U⟩⟩
 .refine⟨c,Yp ⟨g,0,a,U,e,λk x o=>?_⟩⟩;grind[World.cell?]
theorem aK(h:W.ownsRow i T b u t F):∀k,u.ownBlock=M k->i<=k:=λk a=>(h.lt k a).1
def aq(w:Yw)(v:Yx)(l:List UInt8):Prop:=aw w v 1 l.length (l.map λc=> V Ys c.toNat)
def lh(w:Yw)(v:Yx)(l:List Bool):Prop:=aw w v 1 l.length (l.map Value.bool)
theorem aq.get(h:aq W u D)(c:k<D.length):
  ∃a o b,u= Q (M ⟨a,o,H⟩) D.length b/\D.length<=b/\W.cell? ⟨a,o+k,H⟩=M (V Ys (D.getD k 0).toNat):=
 aw.get h Ve
theorem lh.get{l:List Bool}(h:lh W u l)(c:k<l.length):
  ∃a o b,u= Q (M ⟨a,o,H⟩) l.length b/\l.length<=b/\W.cell? ⟨a,o+k,H⟩=M (Yt (l.getD k Yj)):=
 aw.get h Ve
theorem aq.cases(h:aq W u D):(u= Q H 0 0/\D=[])\/ ∃a o b,u= Q (M ⟨a,o,H⟩) D.length b/\D.length<=b/\ ∀k,k<D.length->W.cell? ⟨a,o+k,H⟩=M (V Ys (D.getD k 0).toNat):=by
 obtain⟨d,⟨rfl,e⟩|⟨a,o,b,rfl,f,c⟩⟩:=h<;>grind
theorem aq.mk{w:Yw}{a cap:Nat}{l:List UInt8}(b:l.length<=cap)(h:∀k,k<l.length->w.cell? ⟨a,o+k,H⟩=M (V Ys (l.getD k 0).toNat)):aq w (Q (M ⟨a,o,H⟩) l.length cap) l:=by
 refine⟨Vc,Yp ⟨a,o,cap,U,b,λk x c=>?_⟩⟩;grind
theorem aq.nil(w:Yw):aq w (Q H 0 0) []:=aw.nil w 1
theorem aq.kp{S:Nat->Prop}{w':Yw}(h:aq W u D)(k:Kp S W w')(a:∀b,u.ownBlock=M b-> ¬S b):aq w' u D:=aw.kp h k a
def M3(h:W.ownsRow i T b (Q (M ⟨t,o,H⟩) j N) j F)(u:Yx):(W.setCell ⟨t,o+k,H⟩ u).ownsRow i T b (Q (M ⟨t,o,H⟩) j N) j (F.set k u):=by
 obtain⟨p,a⟩:=h;refine⟨Ve,?_⟩;rcases a with⟨a,-⟩|⟨g,d,c,e,f,l,m,n,q,r⟩
 .cases a
 .cases e;rw[Vv];refine Yp ⟨t,N,c.setIfInBounds k u,U,f,heap_setCell l u,m,n,Ve,?_⟩;grind[List.take_set]
def wT(h:W.ownsRow k T i (Q (M ⟨b,o,H⟩) t j) t F):k<=b/\o=0/\ ∃a,W.heap[b]?=M (Yl a T)/\ ∀q,q<t*i-> ∃x,a[q]?=M x:=by
 rcases h.2 with⟨c,-⟩|⟨g,d,a,e,f,l,m,n,p,r⟩
 .cases c
 .cases e;refine⟨f,U,a,l,λq s=>?_⟩;have:t*i<=j*i:=Wm _ m;exact⟨_,XB Y⟩
def nT{P:Program}{t:TypeId}{n:Nat}(h:(P.info? t).map (λi=>(i.zero.map (λz=>z.cells.size),i.size,i.bytes))=M (M n,n,b)):∃i z,P.info? t=M i/\i.zero=M z/\i.size=n/\i.bytes=b/\z.cells.size=n:=by
 cases hi:P.info? t with
 |none=>grind
 |some i=>
  simp_all
abbrev aj(b:Nat):Value:= Yv (M ⟨b,0,H⟩)
abbrev Dx(dv:Yx)(i:Int):Obj:= Yl #[dv,V O i] 218
structure kC(w:Yw)(rb:Nat)(dv:Yx)(D:List UInt8)(i:Nat):Prop where
 az:w.heap[rb]?=M (Dx dv i)
 bytes:aq w dv D
 JQ:∀b,dv.ownBlock=M b->b≠rb
 len:D.length<=2000
 le:i<=D.length
theorem kC.kp{S:Nat->Prop}{w':Yw}(h:kC W t u D i)(k:Kp S W w')(a: ¬S t)(c:∀b,u.ownBlock=M b->b<W.heap.size-> ¬S b):kC w' t u D i:=
 ⟨k.az h.az a,aw.kp0 h.bytes k c,h.JQ,h.len,h.le⟩
theorem kC.step{w':Yw}(h:kC W t u D i)(k:Kp (one t) W w')(a:w'.heap[t]?=M (Dx u j))(c:j<=D.length):kC w' t u D j:=
 ⟨a,h.bytes.kp k (λb a e=>h.JQ b a e),h.JQ,h.len,c⟩
def gJ(w w':Yw)(v:Yx)(e:Int×Int):Prop:= ∃fb,v=aj fb/\w.heap.size<=fb/\w'.heap[fb]?=M (Yl #[V O e.1,V O e.2] 132)
def BZ(h:kC W k u D i):
  fX 108 #[aj k] W (V O i):=by
 obtain⟨a,-⟩:=ae h.az;go_enter func108,ntmps108;go_wp2;go_ret;exact⟨U,U⟩
def oY(h:kC W k u D i):
  df 110 #[aj k] W (V O ((D.length:Int)-i)) λa=>Kp no W a:=by
 obtain⟨b,-⟩:=ae h.az;obtain⟨c,a,rfl,_⟩:=h.bytes.aJ;have d:=h.len;have hi:=h.le;go_enter func110,ntmps110;go_wp2;go_quiet(fail);go_wp2;go_ret;exact⟨U,(Kp.refl no W).drewN _⟩
def gS(w:Yw)(i:Int):
  df 111 #[V O i] w (aj w.heap.size) λa=>a=w.alloc (Yl #[V O 2,V O i] 132):=by
 go_enter func111,ntmps111;go_wp2;go_ret;exact⟨U,U⟩
def fc(D:List UInt8)(i:Nat):Except (Int×Int) (UInt8×Nat):=if i<D.length then Yn (D.getD i 0,i+1)else Ym (2,i)
def oP{α:Type}(w w':Yw)(rb:Nat)(dv:Yx)(D:List UInt8)(val:α->Yx->Prop)(zero:Yx)(m:Except (Int×Int) (α×Nat))(r:Ending):Prop:=
 match m with
 | Yn (x,j)=> ∃v,r= Yq (Yu #[v,Yv H])/\val x v/\kC w' rb dv D j
 | Ym e=> ∃fv j,r= Yq (Yu #[zero,fv])/\gJ w w' fv e/\kC w' rb dv D j
def IG(h:kC W k u D i)(hi:i<D.length):
  df 138 #[aj k] W (Yu #[V Ys (D.getD i 0).toNat,Yv H]) λa=>kC a k u D (i+1)/\Kp (one k) W a:=by
 obtain⟨p,q⟩:=ae h.az;obtain⟨a,o,f,rfl,g,b⟩:=h.bytes.get hi;have r:=h.len;generalize D.getD i 0=c at *;have s:((D.length:Int)-i==0)=false:=Vd
 go_enter func138,ntmps138;go_wp2_with fail;refine(oY h).bw ?_;rintro j d;have e:=Z (h.kp d id (λ_ _ _ h=>h));obtain⟨l,m⟩:=ae e.az;have n:=d.aY b;go_wp2;go_quiet(fail);go_wp2;go_ret2;refine⟨U,e.step (((Kp.refl (one k) j).drewN _).bK _ _) ?_ Y|>.kp (Kp.refl no _) id (λ_ _ _ h=>h),(d.any.drewN _).bK _ _⟩;exact heap_setCell e.az _
def Dy(h:kC W k u D i)(hi: ¬i<D.length):
  Yy prog 138 #[aj k] W λr a=>(∃b,r= Yq (Yu #[V Ys 0,b])/\gJ W a b (2,i)/\kC a k u D i)/\Kp (one k) W a:=by
 have d:=h.le;have g:((D.length:Int)-i==0)=true:=Vd
 go_enter func138,ntmps138;go_wp2_with fail;refine(oY h).bw ?_;rintro a b;have c:=Z (h.kp b id (λ_ _ _ h=>h));obtain⟨e,f⟩:=ae c.az;go_wp2_with fail;refine(gS _ _).cJ ?_;go_wp2;go_ret2;refine⟨⟨aj a.heap.size,U,⟨a.heap.size,U,b.size,ai _ _⟩,c.kp ((Kp.refl no a).alloc _) id (λ_ _ _ h=>h)⟩,b.any.alloc _⟩
def Dz(h:kC W b u D i):
  Yy prog 138 #[aj b] W λr a=>oP W a b u D (λc v=>v= V Ys (UInt8.toNat c)) (V Ys 0) (fc D i) r/\Kp (one b) W a:=by
 by_cases hi:i<D.length
 .refine(IG h hi).bw ?_;rintro a⟨c,k⟩;rw[fc,Vi hi];exact⟨⟨_,U,U,c⟩,k⟩
 .refine(Dy h hi).mono ?_;rintro r a⟨⟨d,rfl,e,c⟩,k⟩;rw[fc,Va hi];exact⟨⟨d,i,U,e,c⟩,k⟩
def gK(D:List UInt8)(start:Int):Nat->Nat->Except (Int×Int) Nat
 |0,_=> Ym (2,start)
 |r+1,i=>if i<D.length then (if (D.getD i 0).toNat<128 then Yn (i+1)else gK D start r (i+1))else Ym (2,i)
def dB(D:List UInt8)(most i:Nat):Except (Int×Int) (List UInt8×Nat):=
 match gK D i most i with
 | Yn j=> Yn ((D.take j).drop i,j)
 | Ym e=> Ym e
def aq.mid{w:Yw}{a cap:Nat}{l:List UInt8}(h:aq w (Q (M ⟨a,o,H⟩) b cap) l)(i j:Nat)(d:i<=j)(m:j<=l.length):aq w (Q (M ⟨a,o+i,H⟩) (j-i) (cap-i)) ((l.take j).drop i):=by
 rcases h.cases with⟨c,-⟩|⟨n,p,e,c,q,f⟩
 .cases c
 .cases c;have g:((l.take j).drop i).length=j-i:=Vd
  have:=aq.mk (w:=w) (a:=a) (o:=o+i) (cap:=cap-i) (l:=(l.take j).drop i) Y (λk r=>by
   grind)
  grind
def Sub(v dv:Yx):Prop:= ∀b,v.ownBlock=M b->dv.ownBlock=M b
def rD(h:kC W t u D i)(d:Nat)(P:d<=10):
  Yy prog 141 #[aj t,V O d] W λr a=>oP W a t u D (λl v=>aq a v l/\Sub v u) (Q H 0 0) (dB D d i) r/\Kp (one t) W a:=by
 have y:dB D d i=(match gK D i d i with | Yn j=> Yn ((D.take j).drop i,j)| Ym e=> Ym e):=rfl;generalize dB D d i=R at *;obtain⟨S,-⟩:=ae h.az;have C:=h.le;go_enter func141,ntmps141;go_wp2;go_loopw [14] (λa wr=> ∃(k j:Nat),k<=d/\a= V O k/\i<=j/\kC wr t u D j/\Kp (one t) W wr/\gK D i (d-k) j=gK D i d i) (λa _=>d - (intOf a).toNat);case atStart=>exact⟨0,i,Y,U,cQ,h,iR,U⟩
 case round=>
  obtain⟨k,j,T,rfl,E,l,g,f⟩:=hrel;by_cases F:k<d
  .have f:=f;obtain⟨q,A⟩:∃q,d-k=q+1:=⟨d-k-1,Y⟩;rw[A,gK]at f;by_cases r:j<D.length
   .rw[Vi r]at f;have G:=D.getD j 0|>.toNat_lt;have w:=IG l r;generalize D.getD j 0=c at *;by_cases s:c.toNat<128
    .rw[Vi s]at f;go_wp2_with fail;refine w.bw ?_;rintro x⟨m,v⟩;obtain⟨I,J⟩:=ae m.az;rcases m.bytes.cases with⟨-,z⟩|⟨a,o,p,rfl,K,-⟩
     .rw[z]at r;simp at r
     .by_cases L:p=i
      .omega
      .have N:i<=j+1:=Y
       go_wp2;go_quiet(fail);go_wp2;go_ret2;rw[y,<-f];have B:∀n,kC (x.drewN n) t (Q (M ⟨a,o,H⟩) D.length p) D (j+1):=λn=>m.kp ((Kp.refl no x).drewN n) id (λ_ _ _ h=>h)
       refine⟨⟨Q (M ⟨a,o+i,H⟩) (j+1-i) (p-i),U,⟨(B _).bytes.mid i (j+1) Y Y,λb w=>w⟩,B _⟩,(g.trans v).drewN _⟩
    .rw[Va s]at f;go_wp2_with fail;refine w.bw ?_;rintro x⟨m,v⟩;go_wp2;go_roundw;case rel=>exact⟨k+1,j+1,Y,by go_num,Y,m,g.trans v,by rw[show d - (k+1)=q by have:=A;omega];exact f⟩
     case measure=>simp[intOf];omega
   .rw[Va r]at f;go_wp2_with fail;refine(Dy l r).mono ?_;rintro e x⟨⟨o,rfl,c,m⟩,v⟩;obtain⟨b,rfl,n,a⟩:=c;go_wp2;go_ret2;rw[y,<-f];exact⟨⟨aj b,j,U,⟨b,U,cj g.size,a⟩,m⟩,g.trans v⟩
  .have f:=f;rw[show d-k=0 by omega,gK]at f;go_wp2_with fail;refine(gS _ _).cJ ?_;go_wp2;go_ret2;rw[y,<-f];exact⟨⟨aj wr.heap.size,j,U,⟨wr.heap.size,U,g.size,ai _ _⟩,l.kp ((Kp.refl no wr).alloc _) id (λ_ _ _ h=>h)⟩,g.alloc _⟩
def eo(l:List UInt8):Nat->Nat
 |0=>0
 |k+1=>eo l k|||((l.getD k 0).toNat%128)*2^(7*k)%18446744073709551616
def FW:∀x:Fin 256,Go.bits BinOp.andNot IntKind.u8 (x.val:Int) 128=((x.val%128:Nat):Int):=by decide +kernel
def JR(x:UInt8):Go.bits BinOp.andNot IntKind.u8 (x.toNat:Int) 128=((x.toNat%128:Nat):Int):=FW ⟨x.toNat,x.toNat_lt⟩
def su(a:Nat):IntKind.u64.wrap (a:Int)=((a%18446744073709551616:Nat):Int):=by
 rfl
def sw(l:List UInt8)(k:Nat):eo l k<18446744073709551616:=by
 induction k with
 |zero=>simp[eo]
 |succ k ih=>
  rw[eo];have h:=WT (x:=eo l k) (y:=((l.getD k 0).toNat%128)*2^(7*k)%18446744073709551616) (n:=64) ih (Wn _ Vb);exact h
def JS(x:UInt8)(n k:Nat)(a:n<18446744073709551616):Go.bits BinOp.or IntKind.u64 (n:Int) (IntKind.u64.wrap (IntKind.u64.wrap (Go.bits BinOp.andNot IntKind.u8 (x.toNat:Int) 128)*2^(7*k)))=((n|||(x.toNat%128)*2^(7*k)%18446744073709551616:Nat):Int):=by
 rw[JR,su,VT Y];have e:(((x.toNat%128:Nat):Int)*2^(7*k))=(((x.toNat%128)*2^(7*k):Nat):Int):=Vc
 rw[e,su,bits_or_u64_nat _ _ a (Wn _ Vb)]
def xr(h:aq W u D)(l:D.length<=10):
  fX 142 #[u] W (V Yr (eo D D.length)):=by
 obtain⟨m,e,b,f⟩:=h.aJ;subst b;go_enter func142,ntmps142;go_wp2;go_loop [3,8] (λn i=> ∃k:Nat,k<=D.length/\i= V O k/\n= V Yr (eo D k)) (λ_ i=>D.length - (intOf i).toNat);case atStart=>exact⟨0,VB _,U,U⟩
 case round=>
  obtain⟨k,p,rfl,rfl⟩:=hrel;by_cases c:k<D.length
  .obtain⟨a,o,g,b,_,i⟩:=aq.get h c;simp only[Vz]at b;obtain⟨rfl,-,rfl⟩:=b;generalize j:D.getD k 0=x at *;generalize d:eo D k=n at *;go_wp2;go_round;case rel=>exact⟨k+1,Y,by go_num,by rw[JS x n k (by rw[<-d];exact sw D k),eo,d,j]⟩
   case measure=>simp[intOf];omega
  .go_wp2;go_ret;obtain rfl :k=D.length:=Y
   exact⟨U,U⟩
def iT(l:List UInt8):Bool:=decide (1<l.length)&&(l.getD (l.length-1) 0==0)
def FX(x:UInt8):((x.toNat:Int)==0)=(x==0):=by
 rw[V4];simp[<-Vp]
def zy{P:Prop}(h:P:=by
 clear hM;go_enter func143,ntmps143;go_wp2;go_ret;exact⟨by rw[HM.out];rfl,U⟩):P:=h
def FY(h:aq W u D)(i:D.length<=10):
  fX 143 #[u] W (Yt (iT D)):=by
 obtain⟨j,d,b,e⟩:=h.aJ;subst b;by_cases c:1<D.length
 .obtain⟨a,o,f,b,_,g⟩:=aq.get h (show D.length-1<D.length by omega);simp only[Vz]at b;obtain⟨rfl,-,rfl⟩:=b;have hM:iT D=(D.getD (D.length-1) 0==0):=by simp[iT,c]
  generalize D.getD (D.length-1) 0=x at *;have HM:=Z hM;have k:=FX x;exact zy
 .have hM:iT D=false:=by simp[iT,c]
  have HM:=Z hM;exact zy
def DA(r:Nat):∀(i j:Nat),gK D y r i= Yn j->i<j/\j<=i+r/\j<=D.length:=by
 induction r with
 |zero=>intro i j h;cases h
 |succ r ih=>
  grind[gK]
def hY{g:List UInt8}(h:dB D m i= Yn (g,j)):i<j/\j<=i+m/\j<=D.length/\g.length=j-i:=by
 unfold dB at h;split at h
 .rename_i b a;cases h;have:=DA _ _ _ a;grind
 .cases h
def UM(D:List UInt8)(i:Nat):Except (Int×Int) (Nat×Nat):=
 match dB D 5 i with
 | Ym e=> Ym e
 | Yn (g,j)=>if 4294967295<eo g g.length\/iT g=Yk then Ym (2,i)else Yn (eo g g.length,j)
def M4(h:kC W k u D i):
  Yy prog 109 #[aj k] W λr a=>oP W a k u D (λ(n:Nat) v=>v= V .u32 n) (V .u32 0) (UM D i) r/\Kp (one k) W a:=by
 have b:UM D i=(match dB D 5 i with | Ym e=> Ym e| Yn (g,j)=>if 4294967295<eo g g.length\/iT g=Yk then Ym (2,i)else Yn (eo g g.length,j)):=rfl;generalize UM D i=R at *;have d:=rD h 5 Vb;have c:=λg j=>hY (D:=D) (m:=5) (i:=i) (g:=g) (j:=j)
 obtain⟨B,-⟩:=ae h.az;generalize dB D 5 i=a at *;clear h;replace d:=Z d;match a,b,d,c with
 | Ym e,b,d,_=>
  change Hid _ at b;go_enter func109,ntmps109;go_wp2_with fail;refine d.mono ?_;rintro r w⟨⟨s,j,rfl,⟨q,rfl,p,o⟩,f⟩,l⟩;change Hid _ at f o;go_wp2;go_ret2;rw[b.out];exact⟨⟨aj q,j,U,⟨q,U,p,o⟩,f⟩,l⟩
 | Yn (g,j),b,d,c=>
  have e:g.length<=10:=cj (c g j U);have x:=Z b;clear b c;go_enter func109,ntmps109;go_wp2_with fail;refine d.mono ?_;rintro r w⟨⟨v,rfl,⟨o,p⟩,f⟩,l⟩;obtain⟨C,y,rfl,_⟩:=o.aJ;replace p:=Z p;replace o:=Z o;change Hid _ at f;go_wp2_with fail;refine(xr o e).mono ?_;rintro r s⟨rfl,rfl⟩;have z:=sw g g.length;have b:=x.out;generalize eo g g.length=n at *;by_cases t:4294967295<n
  .rw[Vi (Yo t)]at b;go_wp2_with fail;refine(gS _ _).mono ?_;rintro r q⟨rfl,rfl⟩;go_wp2;go_ret2;rw[b];exact⟨⟨aj s.heap.size,j,U,⟨s.heap.size,U,l.size,ai _ _⟩,f.kp ((Kp.refl no s).alloc _) id (λ_ _ _ h=>h)⟩,l.alloc _⟩
  .go_wp2_with fail;refine(FY o e).mono ?_;rintro r q⟨rfl,rfl⟩;generalize iT g=A at *;cases A
   .rw[Va (by simp[t])]at b;go_wp2;go_ret2;rw[b];exact⟨⟨_,U,U,f⟩,l⟩
   .rw[Vi Vc]at b;go_wp2_with fail;refine(gS _ _).mono ?_;rintro r E⟨rfl,rfl⟩;go_wp2;go_ret2;rw[b];exact⟨⟨aj q.heap.size,j,U,⟨q.heap.size,U,l.size,ai _ _⟩,f.kp ((Kp.refl no q).alloc _) id (λ_ _ _ h=>h)⟩,l.alloc _⟩
def DB{n:Nat}(h:UM D i= Yn (n,j)):n<=4294967295/\i<j/\j<=D.length:=by
 unfold UM at h;split at h
 .cases h
 .rename_i g b a;split at h
  .cases h
  .rename_i c;cases h;have:=hY a;omega
def bp(D:List UInt8)(limit:Int)(i:Nat):Except (Int×Int) (Nat×Nat):=
 match UM D i with
 | Ym e=> Ym e
 | Yn (n,j)=>if limit<=(n:Int)then Ym (2,i)else Yn (n,j)
def zz{P:Prop}(h:P:=by
 go_wp2_with fail;refine(gS _ _).cJ ?_;go_wp2;go_ret2;rw[hM];exact⟨⟨aj w1.heap.size,j,U,⟨w1.heap.size,U,k1.size,ai _ _⟩,h1.kp ((Kp.refl no w1).alloc _) id (λ_ _ _ h=>h)⟩,k1.alloc _⟩):P:=h
def fM(h:kC W k u D i)(b:Int)(m:0<=b)(o:b<=1000000):
  Yy prog 105 #[aj k,V O b] W λr a=>oP W a k u D (λ(n:Nat) v=>v= V O n) (V O 0) (bp D b i) r/\Kp (one k) W a:=by
 have hM:bp D b i=(match UM D i with | Ym e=> Ym e| Yn (n,j)=>if b<=(n:Int)then Ym (2,i)else Yn (n,j)):=rfl;generalize bp D b i=R at *;have d:=M4 h;have c:=λn j=>DB (D:=D) (i:=i) (n:=n) (j:=j)
 obtain⟨p,-⟩:=ae h.az;generalize UM D i=a at *;match a,hM,d,c with
 | Ym e,hM,d,_=>
  go_enter func105,ntmps105;go_wp2_with fail;refine d.mono ?_;rintro r w1⟨⟨q,j,rfl,⟨l,rfl,f,g⟩,h1⟩,k1⟩;go_wp2;go_ret2;rw[hM];exact⟨⟨aj l,j,U,⟨l,U,f,g⟩,h1⟩,k1⟩
 | Yn (n,j),hM,d,c=>
  have f:=(c n j U).1;by_cases e:b<=(n:Int)
  .have hM:=hM;simp only[Vi e]at hM;go_enter func105,ntmps105;go_wp2_with fail;refine d.mono ?_;rintro r w1⟨⟨v,rfl,rfl,h1⟩,k1⟩;exact zz
  .have hM:=hM;simp only[Va e]at hM;go_enter func105,ntmps105;go_wp2_with fail;refine d.mono ?_;rintro r w1⟨⟨v,rfl,rfl,h1⟩,k1⟩;go_wp2;go_ret2;rw[hM];exact⟨⟨_,U,U,h1⟩,k1⟩
def Q7(h:aq W u D)(e:D.length<=2000)(a:∀b,u.ownBlock=M b->b<W.heap.size):
  df 74 #[u] W (aj W.heap.size) λd=>kC d W.heap.size u D 0/\Kp no W d:=by
 obtain⟨f,c,rfl,_⟩:=h.aJ;go_enter func74,ntmps74;go_wp2;go_ret;have k:Kp no W (W.alloc (Dx (Q f D.length c) 0)):=(Kp.refl no W).alloc _;exact⟨U,⟨ai _ _,h.kp k bW,λb d=>cj (a b d),e,VB _⟩,k⟩
def jW(n:Nat):Nat:=64-7*n
def ct(g:List UInt8):Int:=wrap64 ((eo g g.length*2^jW g.length%18446744073709551616:Nat):Int)/2^jW g.length
def xt(h:aq W u D)(d:D.length<=10):
  df 207 #[u] W (V O (ct D)) λa=>Kp no W a:=by
 obtain⟨l,f,g,i⟩:=h.aJ;subst g;by_cases j:10<=D.length
 .have a:ct D=wrap64 ((eo D D.length:Nat):Int):=by
   rw[ct,show jW D.length=0 by unfold jW;omega,Xd,Xh,VT (sw _ _)];simp
  have b:=xr h d;have c:=sw D D.length;generalize eo D D.length=n at *;go_enter func207,ntmps207;go_wp2_with fail;refine b.cJ ?_;go_wp2;go_ret;exact⟨by rw[a];rfl,iR⟩
 .have a:ct D=wrap64 ((eo D D.length*2^(64-7*D.length)%18446744073709551616:Nat):Int)/2^(64-7*D.length):=rfl;have b:=xr h d;have c:=sw D D.length;generalize eo D D.length=n at *;have k:7*D.length<64:=Y
  go_enter func207,ntmps207;go_wp2_with fail;refine b.cJ ?_;go_wp2;go_ret;refine⟨?_,iR⟩;rw[a];have e:((n:Int)*2^(64-7*D.length))=((n*2^(64-7*D.length):Nat):Int):=Vc
  show Ending.returned (V O (wrap64 (IntKind.u64.wrap ((n:Int)*2^(64-7*D.length)))/2^(64-7*D.length)))=_
  rw[e,su]
def iU(x:UInt8):Bool:=x&&&64==0
def bY(g:List UInt8):Bool:=decide (2<=g.length)&&((g.getD (g.length-1) 0==0&&iU (g.getD (g.length-2) 0))||(g.getD (g.length-1) 0==127&& !iU (g.getD (g.length-2) 0)))
def DC:∀x:Fin 256,(Go.bits BinOp.and IntKind.u8 (x.val:Int) 64==0)=iU (UInt8.ofNat x.val):=by decide +kernel
def FZ(x:UInt8):(Go.bits BinOp.and IntKind.u8 (x.toNat:Int) 64==0)=iU x:=by
 have:=DC ⟨x.toNat,x.toNat_lt⟩;simp_all
def DD(x:UInt8):((x.toNat:Int)==127)=(x==127):=by
 rw[V4];simp[<-Vp];omega
def mX(h:aq W u D)(s:D.length<=10):
  df 208 #[u] W (Yt (bY D)) λa=>Kp no W a:=by
 obtain⟨t,f,c,g⟩:=h.aJ;subst c;by_cases e:2<=D.length
 .obtain⟨a,o,i,c,_,j⟩:=aq.get h (show D.length-1<D.length by omega);obtain⟨v,w,k,b,_,l⟩:=aq.get h (show D.length-2<D.length by omega);simp only[Vz]at c b;obtain⟨rfl,-,rfl⟩:=c;simp only[Vu,Xv,WQ,true_and]at b;obtain⟨⟨rfl,rfl⟩,rfl⟩:=b;have d:bY D=((D.getD (D.length-1) 0==0&&iU (D.getD (D.length-2) 0))||(D.getD (D.length-1) 0==127&& !iU (D.getD (D.length-2) 0))):=by simp[bY,e]
  generalize D.getD (D.length-1) 0=x at *;generalize D.getD (D.length-2) 0=y at *;have z:=FX x;have A:=DD x;have m:=FZ y;have n:(Go.bits BinOp.and IntKind.u8 (y.toNat:Int) 64 !=0)= !iU y:=by rw[bne,m]
  generalize(x==0)=p at *;generalize(x==127)=q at *;generalize iU y=r at *;change Hid _ at d;cases p<;>cases q<;>cases r<;>
  .simp only[X0,XO]at n;go_enter func208,ntmps208;go_wp2;go_quiet(fail);go_wp2;go_ret;exact⟨by rw[d.out];rfl,(Kp.refl _ _).drewN _⟩
 .have d:bY D=false:=by simp[bY,e]
  go_enter func208,ntmps208;go_wp2;go_ret;exact⟨by rw[d];rfl,iR⟩
def iV(g:List UInt8):Bool:=decide (10<=g.length)&& !(g.getD 9 0==0)&& !(g.getD 9 0==127)
def zA{P:Prop}(h:P:=by
 go_enter func209,ntmps209;go_wp2;go_ret;exact⟨by rw[hM];rfl,iR⟩):P:=h
def F0(h:aq W u D)(p:D.length<=10):
  df 209 #[u] W (Yt (iV D)) λa=>Kp no W a:=by
 obtain⟨q,f,b,g⟩:=h.aJ;subst b;by_cases c:10<=D.length
 .obtain⟨a,o,i,b,_,j⟩:=aq.get h (show 9<D.length by omega);simp only[Vz]at b;obtain⟨rfl,-,rfl⟩:=b;have hM:iV D=(!(D.getD 9 0==0)&& !(D.getD 9 0==127)):=by simp[iV,c]
  generalize D.getD 9 0=x at *;have d:=FX x;have e:=DD x;have k:((x.toNat:Int) !=0)= !(x==0):=by rw[bne,d]
  have l:((x.toNat:Int) !=127)= !(x==127):=by rw[bne,e]
  generalize(x==0)=m at *;generalize(x==127)=n at *;clear d e;cases m<;>cases n<;>
  .simp only[X0,XO]at k l;exact zA
 .have hM:iV D=false:=by simp[iV,c]
  exact zA
def qY(D:List UInt8)(i:Nat):Except (Int×Int) (Int×Nat):=
 match dB D 5 i with
 | Ym e=> Ym e
 | Yn (g,j)=>if ct g≠IntKind.i32.wrap (ct g)\/bY g=Yk then Ym (2,i)else Yn (ct g,j)
def qZ(D:List UInt8)(i:Nat):Except (Int×Int) (Int×Nat):=
 match dB D 10 i with
 | Ym e=> Ym e
 | Yn (g,j)=>if iV g=Yk\/bY g=Yk then Ym (2,i)else Yn (ct g,j)
def sx(g:List UInt8): -9223372036854775808<=ct g/\ct g<=9223372036854775807:=by
 unfold ct;generalize((eo g g.length*2^jW g.length%18446744073709551616:Nat):Int)=x;generalize jW g.length=a;have c: -9223372036854775808<=wrap64 x/\wrap64 x<=9223372036854775807:=by
  grind[wrap64]
 generalize wrap64 x=y at *;have b:(0:Int)<2^a:=Int.pow_pos Vb;have d:=b;constructor
 .refine Int.le_trans ?_ (Int.ediv_le_ediv b c.1);refine Int.le_ediv_of_mul_le b ?_;omega
 .refine Int.le_trans (Int.ediv_le_ediv b c.2) (Int.ediv_le_self _ Vb)
def uj(n:Int): -2147483648<=IntKind.i32.wrap n/\IntKind.i32.wrap n<=2147483647:=by
 grind[IntKind.wrap,IntKind.signed,IntKind.bits]
def DE(n:Int):IntKind.i32.wrap n=wrap32 n:=by
 grind[IntKind.wrap,IntKind.signed,IntKind.bits,wrap32]
def zB{P:Prop}(h:P:=by
 rw[Vi (Yp U)]at hM;have b:=Z hM;clear hM;go_wp2_with fail;refine HP.out.bw ?_;rintro c d;have e:=Z (H2.out.kp d id (λ_ _ _ h=>h));have a:=Z (HK.out.then d);go_wp2_with fail;refine(gS _ _).cJ ?_;go_wp2;go_ret2;rw[b.out];exact⟨⟨aj c.heap.size,j,U,⟨c.heap.size,U,a.out.size,ai _ _⟩,e.out.kp ((Kp.refl no c).alloc _) id (λ_ _ _ h=>h)⟩,a.out.alloc _⟩):P:=h
def zC{P:Prop}(h:P:=by
 go_wp2_with fail;refine(gS _ _).cJ ?_;go_wp2;go_ret2;rw[HM1.out];exact⟨⟨aj w2.heap.size,j,U,⟨w2.heap.size,U,HK.out.size,ai _ _⟩,H2.out.kp ((Kp.refl no w2).alloc _) id (λ_ _ _ h=>h)⟩,HK.out.alloc _⟩):P:=h
def Q8(h:kC W k u D i):
  Yy prog 177 #[aj k] W λr a=>oP W a k u D (λ(n:Int) v=>v= V .i32 n) (V .i32 0) (qY D i) r/\Kp (one k) W a:=by
 have hM:qY D i=(match dB D 5 i with | Ym e=> Ym e| Yn (g,j)=>if ct g≠IntKind.i32.wrap (ct g)\/bY g=Yk then Ym (2,i)else Yn (ct g,j)):=rfl;generalize qY D i=R at *;have c:=rD h 5 Vb;have b:=λg j=>hY (D:=D) (m:=5) (i:=i) (g:=g) (j:=j)
 obtain⟨E,-⟩:=ae h.az;generalize dB D 5 i=a at *;clear h;replace c:=Z c;match a,hM,c,b with
 | Ym e,hM,c,_=>
  have p:=Z hM;clear hM;go_enter func177,ntmps177;go_wp2_with fail;refine c.mono ?_;rintro r y⟨⟨s,j,rfl,⟨o,rfl,l,f⟩,d⟩,q⟩;change Hid _ at d f;go_wp2;go_ret2;rw[p.out];exact⟨⟨aj o,j,U,⟨o,U,l,f⟩,d⟩,q⟩
 | Yn (g,j),hM,c,b=>
  have l:g.length<=10:=cj (b g j U);have p:=Z hM;clear hM b;go_enter func177,ntmps177;go_wp2_with fail;refine c.mono ?_;rintro r y⟨⟨v,rfl,⟨e,t⟩,d⟩,q⟩;obtain⟨F,z,rfl,_⟩:=e.aJ;clear t;replace e:=Z e;change Hid _ at d;go_wp2_with fail;refine(xt e l).bw ?_;rintro w2 s;have HK:=Z (q.then s);have H2:=Z (d.kp s id (λ_ _ _ h=>h));have w:=Z (e.kp s bW);clear d e q s;have hM:=p.out;have A:=sx g;generalize ct g=n at *;clear p;by_cases f:n=IntKind.i32.wrap n
  .have B: -2147483648<=n/\n<=2147483647:=by rw[f];exact uj n
   have o:=mX w l;generalize bY g=C at *;have HP:=Z o;clear o;change Hid _ at f;cases C
   .rw[Va (by simpa using f.out)]at hM;have HM1:=Z hM;clear hM;go_wp2_with fail;refine HP.bw ?_;rintro G x;go_wp2;go_ret2;rw[HM1.out];exact⟨⟨_,U,U,H2.kp x id (λ_ _ _ h=>h)⟩,HK.then x⟩
   .exact zB
  .rw[Vi (Yo f)]at hM;have HM1:=Z hM;clear hM;rw[DE]at f;have o:(n !=wrap32 n)=true:=by simpa using f
   have x:=uj n;rw[DE]at x;exact zC
def zD{n:Int}(h:qY D i= Yn (n,j)): -2147483648<=n/\n<=2147483647/\i<j/\j<=D.length:=by
 unfold qY at h;split at h
 .cases h
 .rename_i g c a;split at h
  .cases h
  .rename_i b;cases h;have d:=XC (λe=>b (Yo e));have f:=uj (ct g);have e:=hY a;omega
def zF{n:Int}(h:qZ D i= Yn (n,j)): -9223372036854775808<=n/\n<=9223372036854775807/\i<j/\j<=D.length:=by
 unfold qZ at h;split at h
 .cases h
 .rename_i g b a;split at h
  .cases h
  .cases h;have c:=sx g;have d:=hY a;omega
def Q9(h:kC W k u D i):
  Yy prog 178 #[aj k] W λr a=>oP W a k u D (λ(n:Int) v=>v= V O n) (V O 0) (qZ D i) r/\Kp (one k) W a:=by
 have hM:qZ D i=(match dB D 10 i with | Ym e=> Ym e| Yn (g,j)=>if iV g=Yk\/bY g=Yk then Ym (2,i)else Yn (ct g,j)):=rfl;generalize qZ D i=R at *;have c:=rD h 10 Vb;have b:=λg j=>hY (D:=D) (m:=10) (i:=i) (g:=g) (j:=j)
 obtain⟨C,-⟩:=ae h.az;generalize dB D 10 i=a at *;clear h;replace c:=Z c;match a,hM,c,b with
 | Ym e,hM,c,_=>
  have o:=Z hM;clear hM;go_enter func178,ntmps178;go_wp2_with fail;refine c.mono ?_;rintro r y⟨⟨q,j,rfl,⟨n,rfl,l,d⟩,f⟩,p⟩;change Hid _ at f d;go_wp2;go_ret2;rw[o.out];exact⟨⟨aj n,j,U,⟨n,U,l,d⟩,f⟩,p⟩
 | Yn (g,j),hM,c,b=>
  have d:g.length<=10:=cj (b g j U);have o:=Z hM;clear hM b;go_enter func178,ntmps178;go_wp2_with fail;refine c.mono ?_;rintro r y⟨⟨v,rfl,⟨l,s⟩,f⟩,p⟩;obtain⟨E,z,rfl,_⟩:=l.aJ;clear s;replace l:=Z l;change Hid _ at f;go_wp2_with fail;refine(F0 l d).bw ?_;rintro w2 q;have HK:=Z (p.then q);have H2:=Z (f.kp q id (λ_ _ _ h=>h));have n:=Z (l.kp q bW);clear f l p q;have hM:=o.out;clear o;have e:=mX n d;generalize iV g=A at *;cases A
  .generalize bY g=B at *;have HP:=Z e;clear e;cases B
   .rw[Va Vc]at hM;have HM1:=Z hM;clear hM;go_wp2_with fail;refine HP.bw ?_;rintro F t;have w:=Z (n.kp t bW);go_wp2_with fail;refine(xt w d).bw ?_;rintro G x;go_wp2;go_ret2;rw[HM1.out];exact⟨⟨_,U,U,(H2.kp t id (λ_ _ _ h=>h)).kp x id (λ_ _ _ h=>h)⟩,(HK.then t).then x⟩
   .exact zB
  .rw[Vi (Yo U)]at hM;have HM1:=Z hM;clear hM e;exact zC
def fY(w:Yw)(r:Option Nat):w.grownBy w r:=⟨U,U,U,cQ,λ_ _ _=>rfl⟩
section
variable{P:Program}(w:World)
def yQ{o:Oper}{K:Act->Yw->Prop}{a:Exit->Act->Yw->Prop}(s x:Operand)(t:TypeId)
  (r:o.op=.call {callee:=.builtin .append,args:=#[s,x],argTypes:=#[t,t]})
  (c:Nat)(e:TypeId)(i:TypeInfo)(z:Yx)(b f:Nat)(y:P.underlying t=M (.slice e))(hi:P.info? e=M i)(N:i.zero=M z)
  (A:i.size=b)(B:i.bytes=f)(C:z.cells.size=b)(D:0<b)
  (v:Yx)(n:Nat)(g:List Yx)(E:G.eval s=v)(j:w.ownsRow c e b v n g)
  (p:Yx)(m:Nat)(d:List Yx)(F:G.eval x=p)(k:aw w p b m d)(R:∀u∈d,u.oneCell'=Yk)
  (I:n+m<=maxLen)(J:(n+m)*f<=140737488355328)(L:c<=w.heap.size)
  (h:∀q l,l.ownsRow c e b q (n+m) (g++d)->w.grownBy l v.ownBlock->K (G.put o.dst q) l):o.wp P G w K a:=by
 obtain⟨S,⟨rfl,rfl⟩|⟨T,of,l,rfl,W,q⟩⟩:=k
 .obtain rfl :d=[]:=WM.1 Y;have u:=run_append_owned_none (P:=P) w c t o.type e i b y hi v n g j;unfold Oper.wp execOp;simp only[r,resolve,invoke,builtin,Sem.run_bind,Sem.run_pure,Result.andThen_ok,WW,WA,Xb,E,F,u];exact h v w Ve (fY _ _)
 grind[wp_append_own,Addr.add_lit]
def b7{g:Array Oper}{rest:List Oper}{o:Oper}{a:Exit->Act->Yw->Prop}(l:o.guard=H)(s x:Operand)(t:TypeId)
  (J:o.op=.call {callee:=.builtin .append,args:=#[s,x],argTypes:=#[t,t]})
  (c:Nat)(e:TypeId)(i:TypeInfo)(z:Yx)(b f:Nat)(K:P.underlying t=M (.slice e))(hi:P.info? e=M i)(L:i.zero=M z)
  (p:i.size=b)(q:i.bytes=f)(r:z.cells.size=b)(y:0<b)
  (v:Yx)(n:Nat)(A:List Yx)(N:G.eval s=v)(B:w.ownsRow c e b v n A)
  (C:Yx)(m:Nat)(d:List Yx)(R:G.eval x=C)(D:aw w C b m d)(S:∀u∈d,u.oneCell'=Yk)
  (E:n+m<=maxLen)(F:(n+m)*f<=140737488355328)(I:c<=w.heap.size)
  (h:∀k j,j.ownsRow c e b k (n+m) (A++d)->w.grownBy j v.ownBlock->wpList P g a rest (G.put o.dst k) j):wpList P g a (o::rest) G w:=
 wpList_plain l λ_ o=>yQ w s x t J c e i z b f K hi L p q r y v n A N B C m d R D S E F I λk j u T=>o _ _ (h k j u T)
end
theorem aw.new(w:Yw)(x:Yx)(t:TypeId):aw (w.alloc (Yl #[x] t)) (Q (M ⟨w.heap.size,0,H⟩) 1 1) 1 1 [x]:=
 ⟨U,Yp ⟨_,0,1,U,cQ,λk u a=>Vh⟩⟩
def bV(l:List UInt8):∀u∈l.map (λc=>Value.int Ys c.toNat),u.oneCell'=true:=by
 intro u a;obtain⟨c,-,rfl⟩:=Xc.1 a;rfl
def eP(h:z.oneCell'=Yk):∀u∈[z],u.oneCell'=true:=by
 grind
section
variable{P:Program}(w:World)
def yS(t l:TypeId)(b:Nat)(e:TypeId)(i:TypeInfo)(z:Yx)(a d:Nat)(C:P.underlying t=M (.slice e))(hi:P.info? e=M i)(F:i.zero=M z)
  (o:i.size=a)(p:i.bytes=d)(q:z.cells.size=a)(r:0<a)
  (v:Yx)(n:Nat)(h:List Yx)(f:w.ownsRow b e a v n h)
  (D:Yx)(m:Nat)(c:List Yx)(s:aw w D a m c)(G:∀u∈c,u.oneCell'=Yk)
  (x:n+m<=maxLen)(y:(n+m)*d<=140737488355328)(A:b<=w.heap.size):
  ∃g k,(Builtin.append_ #[t,t] l #[v,D]).run P w=.ok g k/\k.ownsRow b e a g (n+m) (h++c)/\w.grownBy k v.ownBlock/\(g.ownBlock=v.ownBlock\/g.ownBlock=M w.heap.size):=by
 obtain⟨I,⟨rfl,rfl⟩|⟨J,of,B,rfl,L,K⟩⟩:=s
 .obtain rfl :c=[]:=WM.1 Y;have E:=run_append_owned_none (P:=P) w b t l e i a C hi v n h f;exact⟨v,w,E,Ve,fY _ _,Yo U⟩
 .obtain⟨g,k,E,N,R,-,S⟩:=run_append_own_at (P:=P) w b t l e i z a d C hi F o p q r v n h f ⟨J,of,H⟩ m B c I (λj u T=>by grind[Addr.add_lit]) G x y A;grind
def aas{P:Prop}(h:P:=by
 unfold Oper.wp execOp;simp only[ho,resolve,invoke,builtin,Sem.run_bind,Sem.run_pure,Result.andThen_ok,WW,WA,Xb,hs,hx,hr];exact h v' w' h2 h3 h4):P:=h
theorem sF{o:Oper}{K:Act->Yw->Prop}{a:Exit->Act->Yw->Prop}(s x:Operand)(t:TypeId)
  (ho:o.op=.call {callee:=.builtin .append,args:=#[s,x],argTypes:=#[t,t]})
  (c:Nat)(e:TypeId)(i:TypeInfo)(z:Yx)(b f:Nat)(D:P.underlying t=M (.slice e))(hi:P.info? e=M i)(E:i.zero=M z)
  (g:i.size=b)(j:i.bytes=f)(k:z.cells.size=b)(l:0<b)
  (v:Yx)(n:Nat)(p:List Yx)(hs:G.eval s=v)(q:w.ownsRow c e b v n p)
  (r:Yx)(m:Nat)(d:List Yx)(hx:G.eval x=r)(y:aw w r b m d)(F:∀u∈d,u.oneCell'=Yk)
  (A:n+m<=maxLen)(B:(n+m)*f<=140737488355328)(C:c<=w.heap.size)
  (h:∀v' w',w'.ownsRow c e b v' (n+m) (p++d)->w.grownBy w' v.ownBlock->(v'.ownBlock=v.ownBlock\/v'.ownBlock=M w.heap.size)->K (G.put o.dst v') w'):o.wp P G w K a:=by
 obtain⟨v',w',hr,h2,h3,h4⟩:=yS (P:=P) w t o.type c e i z b f D hi E g j k l v n p q r m d y F A B C;exact aas
def bj{j:Array Oper}{rest:List Oper}{o:Oper}{a:Exit->Act->Yw->Prop}(l:o.guard=H)(s x:Operand)(t:TypeId)
  (J:o.op=.call {callee:=.builtin .append,args:=#[s,x],argTypes:=#[t,t]})
  (c:Nat)(e:TypeId)(i:TypeInfo)(z:Yx)(b f:Nat)(K:P.underlying t=M (.slice e))(hi:P.info? e=M i)(L:i.zero=M z)
  (p:i.size=b)(q:i.bytes=f)(r:z.cells.size=b)(y:0<b)
  (v:Yx)(n:Nat)(A:List Yx)(N:G.eval s=v)(B:w.ownsRow c e b v n A)
  (C:Yx)(m:Nat)(d:List Yx)(R:G.eval x=C)(D:aw w C b m d)(S:∀u∈d,u.oneCell'=Yk)
  (E:n+m<=maxLen)(F:(n+m)*f<=140737488355328)(I:c<=w.heap.size)
  (h:∀g k,k.ownsRow c e b g (n+m) (A++d)->w.grownBy k v.ownBlock->(g.ownBlock=v.ownBlock\/g.ownBlock=M w.heap.size)->wpList P j a rest (G.put o.dst g) k):wpList P j a (o::rest) G w:=
 wpList_plain l λ_ o=>sF w s x t J c e i z b f K hi L p q r y v n A N B C m d R D S E F I λg k u T W=>o _ _ (h g k u T W)
def bJ{f:Array Oper}{o:Oper}{K:Act->Yw->Prop}{a:Exit->Act->Yw->Prop}{E:Prop}(q:o.guard=H)(s x:Operand)(t:TypeId)
  (L:o.op=.call {callee:=.builtin .append,args:=#[s,x],argTypes:=#[t,t]})
  (c:Nat)(e:TypeId)(i:TypeInfo)(z:Yx)(b g:Nat)(N:P.underlying t=M (.slice e))(hi:P.info? e=M i)(R:i.zero=M z)
  (r:i.size=b)(y:i.bytes=g)(A:z.cells.size=b)(B:0<b)
  (v:Yx)(n:Nat)(l:List Yx)(S:G.eval s=v)(C:w.ownsRow c e b v n l)
  (p:Yx)(m:Nat)(d:List Yx)(T:G.eval x=p)(D:aw w p b m d)(W:∀u∈d,u.oneCell'=Yk)
  (F:n+m<=maxLen)(I:(n+m)*g<=140737488355328)(J:c<=w.heap.size)
  (h:∀j k,k.ownsRow c e b j (n+m) (l++d)->w.grownBy k v.ownBlock->(j.ownBlock=v.ownBlock\/j.ownBlock=M w.heap.size)->K (G.put o.dst j) k):
  if Region.wanted o (yielded f G.tmps)=Yk then Oper.wp P o G w K a else E:=by
 have j:Region.wanted o (yielded f G.tmps)=true:=by grind[Region.wanted]
 rw[Vi j];grind[sF]
end
def J9{b:Array Oper}{K:Act->Yw->Prop}{a:Exit->Act->Yw->Prop}{E:Prop}(j:x.guard=H)(f:FuncId)(c:Array Operand)(d:Array TypeId)
  (g:x.op=.call {callee:=.value (.func f),args:=c,argTypes:=d})(e:∀args W,(callFunc f args).run C W=.ok (.enter f args) W)(args:Array Yx)(k:c.toList.map G.eval=args.toList)
  {R:Ending->Yw->Prop}(l:Yy C f args W R)(h:∀r i,R r i-> ∃v,r= Yq v/\K (G.put x.dst v) i):
  if Region.wanted x (yielded b G.tmps)=Yk then Oper.wp C x G W K a else E:=by
 have i:Region.wanted x (yielded b G.tmps)=true:=by grind[Region.wanted]
 rw[Vi i];obtain⟨m,p,q,pos,n,o⟩:=x;simp only at g;subst g;unfold Oper.wp;rw[execOp_call_go,show #[]++c.map G.eval++ #[]=args from Array.toList_inj.1 Vh,e,Oper.upon_enter];refine l.mono ?_;grind
def enB(P:Program)(f:FuncId):Bool:=
 match P.funcs[f]? with
 |some fn=> !(fn.name=="runtime.NumGoroutine")&&fn.body.isSome
 |none=>Yj
def aa1{f:FuncId}(h:enB C f=Yk)(a:Array Yx)(w:Yw):(callFunc f a).run C w=.ok (.enter f a) w:=by
 unfold enB at h;split at h
 .rename_i b d;simp only[Vo,WD]at h;obtain⟨c,e⟩:=Option.isSome_iff_exists.1 h.2;have g:b.name≠"runtime.NumGoroutine":=by simpa using h.1
  simp[callFunc,d,g,e,mark]
 .cases h
def sc{c:Array Oper}{K:Act->Yw->Prop}{a:Exit->Act->Yw->Prop}{E:Prop}{f:FuncId}{d:Array Operand}{b:Array TypeId}{args:Array Yx}{R:Ending->Yw->Prop}(j:Yy C f args W R)(h:∀r i,R r i-> ∃v,r= Yq v/\K (G.put x.dst v) i)
  (e:x.guard=none:=by rfl)(k:x.op=.call {callee:=.value (.func f),args:=d,argTypes:=b}:=by rfl)(g:enB C f=true:=by kernel_rfl)(hargs:d.toList.map G.eval=args.toList:=by rfl):if Region.wanted x (yielded c G.tmps)=Yk then Oper.wp C x G W K a else E:=J9 e f d b k (aa1 g) args hargs j h
theorem aw.Cd{a:Array Yx}(h:W.heap[b]?=M (Yl a T))(n c:Nat)(d:a.size=n*c):aw W (Q (M ⟨b,0,H⟩) n n) c n a.toList:=
 ⟨Y,Yp ⟨b,0,n,U,cQ,λk x e=>by grind[ae]⟩⟩
def aw.lq(c:W.heap.size=k)(a:Array Yx)(t:TypeId)(n b:Nat)(d:a.size=n*b):aw (W.alloc (Yl a t)) (Q (M ⟨k,0,H⟩) n n) b n a.toList:=by
 grind[ai,Cd]
section
variable{α:Type}{f:α->List Value}{n:Nat}
def kI(h:∀a,(f a).length=n)(l:List α)(k j:Nat)(b:j<n):(l.flatMap f)[k*n+j]?=(l[k]?).bind (λa=>(f a)[j]?):=by
 induction l generalizing k with
 |nil=>simp
 |cons a l ih=>
  cases k with
  |zero=>grind
  |succ k=>
   grind
def pj(h:∀a,(f a).length=n)(l:List α)(k j:Nat)(e:j<n)(a c:α)(v:Yx)(d:l[k]?=M a)(g:f c=(f a).set j v):(l.flatMap f).set (k*n+j) v=(l.set k c).flatMap f:=by
 induction l generalizing k with
 |nil=>simp at d
 |cons b l ih=>
  cases k with
  |zero=>
   grind
  |succ k=>
   grind
def uy(h:∀a,(f a).length=n)(l:List α)(k:Nat):(l.take k).flatMap f=(l.flatMap f).take (k*n):=by
 induction l generalizing k with
 |nil=>simp
 |cons b l ih=>
  cases k with
  |zero=>simp
  |succ k=>
   grind[Nat.succ_mul]
end
structure dQ where
 op:UInt8
 num:Nat
 goal:Nat
 aH:Nat
 keep:Nat
def dQ.cells(x:dQ):List Value:=[V Ys x.op.toNat,V Yr x.num,V O x.goal,V O x.aH,V O x.keep]
theorem dQ.len(x:dQ):x.cells.length=5:=rfl
abbrev Ty:=List UInt8×List UInt8
structure Bk where
 bq:Nat
 aL:List UInt8
 aH:Nat
 start:Nat
 waits:List Nat
abbrev uz:=Bk×Yx×Yx
def fH(x:uz):List Value:=[V O x.1.bq,x.2.1,V O x.1.aH,V O x.1.start,x.2.2]
def DU(x:uz):(fH x).length=5:=rfl
structure nt where
 D:List UInt8
 funcs:List Ty
 gl:List (UInt8×Bool)
 aZ:List UInt8
structure ez where
 B:Nat
 rb:Nat
 bb:Nat
 mb:Nat
 dv:Yx
 fv:Yx
 jB:Yx
 gv:Yx
 lv:Yx
 ro:Nat->Prop
 bI:Nat
 c:nt
structure Bd where
 i:Nat
 ao:List dQ
 stack:List UInt8
 af:List Bk
 pos:Nat
 aR:Bool
def nS(ro:Nat->Prop)(v:Yx):Prop:= ∀b,v.ownBlock=M b->ro b
def wZ(w:Yw)(ro:Nat->Prop)(v:Yx)(st:Nat)(ts:List Ty):Prop:=
 ∃ad cap,v= Q ad ts.length cap/\ts.length<=cap/\ ∀k,k<ts.length-> ∃a o pv rv,ad=M ⟨a,o,H⟩/\ro a/\w.cell? ⟨a,o+k*st,H⟩=M pv/\w.cell? ⟨a,o+k*st+1,H⟩=M rv/\
  aq w pv (ts.getD k ([],[])).1/\nS ro pv/\aq w rv (ts.getD k ([],[])).2/\nS ro rv
def jY(w:Yw)(ro:Nat->Prop)(v:Yx)(gs:List (UInt8×Bool)):Prop:=
 ∃ad cap,v= Q ad gs.length cap/\gs.length<=cap/\ ∀k,k<gs.length-> ∃a o,ad=M ⟨a,o,H⟩/\ro a/\w.cell? ⟨a,o+k*2,H⟩=M (V Ys (gs.getD k (0,Yj)).1.toNat)/\w.cell? ⟨a,o+k*2+1,H⟩=M (Yt (gs.getD k (0,Yj)).2)
abbrev fy(ro:Nat->Prop):Nat->Prop:=λk=> ¬ro k
theorem aq.ro{w':Yw}(h:aq W u D)(a:nS R u)(k:Kp (fy R) W w'):aq w' u D:=h.kp k (λb c d=>d (a b c))
def zR{P:Prop}(h:P:=by
 obtain⟨b,a,c,d,e⟩:=h;refine⟨b,a,c,d,λj f=>?_⟩;grind[Kp.cell,aq.ro]):P:=h
theorem wZ.kp{ro:Nat->Prop}{w':Yw}{a:List Ty}(h:wZ W ro u i a)(k:Kp (fy ro) W w'):wZ w' ro u i a:=by
 exact zR
def zT{P:Prop}(h:P:=by
 obtain⟨b,a,c,d,e⟩:=h;refine⟨b,a,c,d,λj f=>?_⟩;grind[Kp.cell]):P:=h
theorem jY.kp{ro:Nat->Prop}{w':Yw}{a:List (UInt8×Bool)}(h:jY W ro u a)(k:Kp (fy ro) W w'):jY w' ro u a:=by
 exact zT
structure ez.Ok(E:ez)(w:Yw):Prop where
 base:E.B<=w.heap.size
 dv:nS E.ro E.dv
 funcs:wZ w E.ro E.fv 4 E.c.funcs
 gl:jY w E.ro E.gv E.c.gl
 aZ:aq w E.lv E.c.aZ
 lv:nS E.ro E.lv
 nf:E.c.funcs.length<=16
 ng:E.c.gl.length<=8
 nl:E.c.aZ.length<=32
 res:∀k,k<E.c.funcs.length->(E.c.funcs.getD k ([],[])).1.length<=8/\(E.c.funcs.getD k ([],[])).2.length<=1
theorem ez.Ok.kp{E:ez}{w':Yw}(h:E.Ok W)(k:Kp (fy E.ro) W w'):E.Ok w':=
 ⟨Vk h.base k.size,h.dv,h.funcs.kp k,h.gl.kp k,h.aZ.ro h.lv k,h.lv,h.nf,h.ng,h.nl,h.res⟩
abbrev eM(E:ez)(g:Nat)(s:Bd)(sv:Yx)(kc:Nat):Obj:= Yl #[aj E.rb,aj E.mb,E.gv,E.lv,sv,Q (M ⟨g,0,H⟩) s.af.length kc,V O s.pos,Yt s.aR] 263
abbrev rJ(E:ez)(cv:Yx):Obj:= Yl #[E.fv,E.jB,V O E.bI,cv] 121
structure bT(E:ez)(g:Nat)(w:Yw)(s:Bd)(role:Nat->Nat)(sv cv:Yx)(kc:Nat)(bs:List uz):Prop where
 env:E.Ok w
 rd:kC w E.rb E.dv E.c.D s.i
 body:w.heap[E.bb]?=M (eM E g s sv kc)
 mod:w.heap[E.mb]?=M (rJ E cv)
 stack:w.ownsRow E.B 5 1 sv s.stack.length (s.stack.map λc=> V Ys c.toNat)
 af:w.ownsRow E.B 298 5 (Q (M ⟨g,0,H⟩) s.af.length kc) s.af.length (bs.flatMap fH)
 ao:w.ownsRow E.B 214 5 cv s.ao.length (s.ao.flatMap dQ.cells)
 eq:s.af=bs.map (·.1)
 waits:∀(k:Nat) (x:uz),bs[k]?=M x->w.ownsRow E.B 3 1 x.2.2 x.1.waits.length (x.1.waits.map λn=>Value.int O ((n:Nat):Int))
 results:∀(k:Nat) (x:uz),bs[k]?=M x->aq w x.2.1 x.1.aL
 r1:role E.rb=1
 r2:role E.mb=2
 r3:role E.bb=3
 r4:∀b,sv.ownBlock=M b->role b=4
 r5:role g=5
 r6:∀b,cv.ownBlock=M b->role b=6
 rw :∀(k:Nat) (x:uz),bs[k]?=M x-> ∀b,x.2.2.ownBlock=M b->role b=100+k
 rr:∀(k:Nat) (x:uz),bs[k]?=M x->nS (λb=>role b=0/\b<w.heap.size) x.2.1
 ro:∀b,E.ro b->role b=0
 lt:∀b,E.ro b->b<w.heap.size
def cU(E:ez)(g:Nat)(w:Yw)(s:Bd):Prop:= ∃role sv cv kc bs,bT E g w s role sv cv kc bs
def dC(role:Nat->Nat)(n z:Nat):Nat->Nat:=λk=>if k<n then role k else z
def mi{a:Nat->Nat}(h:k<i):dC a i b k=a k:=Vi h
theorem ef{a:Nat->Nat}(h:i<=k):dC a i b k=b:=Va Y
def bR(h:W.ownsRow k T i u t F)(a:u.ownBlock=M b):b<W.heap.size:=(h.lt b a).2
def aw.Uy{X:Nat->Prop}{a:Nat->Nat}{w':Yw}(h:aw W u i t F)(k:Kp (λb=>X (a b)) W w')(c: ¬X 0)(d:nS (λb=>a b=0/\b<q) u):aw w' u i t F:=
 h.kp k (λb e f=>c (by rw[<-(d b e).1];exact f))
section
variable{E:ez}{g:Nat}{w w':World}{s:Bd}{role:Nat->Nat}{sv cv:Value}{kc:Nat}{bs:List uz}{X:Nat->Prop}
def bT.fy(h:bT E g w s role sv cv kc bs)(k:Kp (λb=>X (role b)) w w')(a: ¬X 0):Kp (fy E.ro) w w':=k.mono (λb _ c d=>a (by grind[ro]))
def bT.Ce(h:bT E g w s role sv cv kc bs)(k:Kp (λb=>X (role b)) w w')(a: ¬X 0):E.Ok w':=h.env.kp (h.fy k a)
def bT.DV(h:bT E g w s role sv cv kc bs)(k:Kp (λb=>X (role b)) w w')(c: ¬X 0)(d: ¬X 1):kC w' E.rb E.dv E.c.D s.i:=
 h.rd.kp k (λa=>d (by grind[r1])) (λb e _ a=>c (by rw[<-h.ro b (h.env.dv b e)];exact a))
def bT.DW(h:bT E g w s role sv cv kc bs)(k:Kp (λb=>X (role b)) w w')(a: ¬X 3):w'.heap[E.bb]?=M (eM E g s sv kc):=k.az h.body (λb=>a (by grind[r3]))
def bT.nV(h:bT E g w s role sv cv kc bs)(k:Kp (λb=>X (role b)) w w')(a: ¬X 2):w'.heap[E.mb]?=M (rJ E cv):=k.az h.mod (λb=>a (by grind[r2]))
def bT.lL(h:bT E g w s role sv cv kc bs)(k:Kp (λb=>X (role b)) w w')(a: ¬X 4):w'.ownsRow E.B 5 1 sv s.stack.length (s.stack.map λc=> V Ys c.toNat):=k.own h.stack (λb c d=>a (by grind[r4]))
def bT.nW(h:bT E g w s role sv cv kc bs)(k:Kp (λb=>X (role b)) w w')(a: ¬X 5):w'.ownsRow E.B 298 5 (Q (M ⟨g,0,H⟩) s.af.length kc) s.af.length (bs.flatMap fH):=
 k.own h.af (λb c d=>a (by cases c;grind[r5]))
def bT.jD(h:bT E g w s role sv cv kc bs)(k:Kp (λb=>X (role b)) w w')(a: ¬X 6):w'.ownsRow E.B 214 5 cv s.ao.length (s.ao.flatMap dQ.cells):=k.own h.ao (λb c d=>a (by grind[r6]))
def bT.nX(h:bT E g w s role sv cv kc bs)(k:Kp (λb=>X (role b)) w w')(j:Nat)(x:uz)(a:bs[j]?=M x)(c: ¬X (100+j)):w'.ownsRow E.B 3 1 x.2.2 x.1.waits.length (x.1.waits.map λn=>Value.int O ((n:Nat):Int)):=
 k.own (h.waits j x a) (λb d e=>c (by grind[rw]))
def bT.iL(h:bT E g w s role sv cv kc bs)(k:Kp (λb=>X (role b)) w w')(c: ¬X 0)(j:Nat)(x:uz)(a:bs[j]?=M x):aq w' x.2.1 x.1.aL:=aw.Uy (h.results j x a) k c (h.rr j x a)
def bT.Q0(h:bT E g w s role sv cv kc bs)(k:Kp (λb=>X (role b)) w w')(j:Nat)(x:uz)(a:bs[j]?=M x):nS (λb=>role b=0/\b<w'.heap.size) x.2.1:=λb c=>⟨(h.rr j x a b c).1,Vm (h.rr j x a b c).2 k.size⟩
def bT.Rt(h:bT E g w s role sv cv kc bs)(k:Kp (λb=>X (role b)) w w')(b:Nat)(a:E.ro b):b<w'.heap.size:=Vm (h.lt b a) k.size
def bT.mM(h:bT E g w s role sv cv kc bs){e:Nat->Nat}(c:∀k,k<w.heap.size->e k=role k):bT E g w s e sv cv kc bs:=
 ⟨h.env,h.rd,h.body,h.mod,h.stack,h.af,h.ao,h.eq,h.waits,h.results,(c _ (au h.rd.az)).trans h.r1,(c _ (au h.mod)).trans h.r2,(c _ (au h.body)).trans h.r3,
  λb a=>(c b (bR h.stack a)).trans (h.r4 b a),(c g (bR h.af U)).trans h.r5,λb a=>(c b (bR h.ao a)).trans (h.r6 b a),
  λk x d b a=>(c b (bR (h.waits k x d) a)).trans (h.rw k x d b a),λk x d b a=>⟨(c b (h.rr k x d b a).2).trans (h.rr k x d b a).1,(h.rr k x d b a).2⟩,λb a=>(c b (h.lt b a)).trans (h.ro b a),h.lt⟩
def bT.pn(h:bT E g w s role sv cv kc bs)(z:Nat):bT E g w s (dC role w.heap.size z) sv cv kc bs:=h.mM (λ_ a=>mi a)
def bT.zU(h:bT E g w s role sv cv kc bs)(k:Kp (one E.rb) w w')(c:kC w' E.rb E.dv E.c.D j):bT E g w' {s with i:=j} role sv cv kc bs:=by
 have a:Kp (λb=>(λr=>r=1) (role b)) w w':=k.mono (λb _ (d:b=E.rb)=>by grind[r1]);exact⟨h.Ce (X:=(λr=>r=1)) a Vb,c,(h.DW (X:=(λr=>r=1)) a Vb:),(h.nV (X:=(λr=>r=1)) a Vb:),(h.lL (X:=(λr=>r=1)) a Vb:),(h.nW (X:=(λr=>r=1)) a Vb:),(h.jD (X:=(λr=>r=1)) a Vb:),h.eq,λj x b=>h.nX (X:=(λr=>r=1)) a j x b Y,h.iL (X:=(λr=>r=1)) a Vb,
  h.r1,h.r2,h.r3,h.r4,h.r5,h.r6,h.rw,h.Q0 (X:=(λr=>r=1)) a,h.ro,h.Rt (X:=(λr=>r=1)) a⟩
def bT.quiet(h:bT E g w s role sv cv kc bs)(k:Kp no w w'):bT E g w' s role sv cv kc bs:=by
 have a:=k;exact⟨h.Ce (X:=(λ_=>False)) a id,(h.DV (X:=(λ_=>False)) a id id:),(h.DW (X:=(λ_=>False)) a id:),(h.nV (X:=(λ_=>False)) a id:),(h.lL (X:=(λ_=>False)) a id:),(h.nW (X:=(λ_=>False)) a id:),(h.jD (X:=(λ_=>False)) a id:),h.eq,λj x b=>h.nX (X:=(λ_=>False)) a j x b id,h.iL (X:=(λ_=>False)) a id,
  h.r1,h.r2,h.r3,h.r4,h.r5,h.r6,h.rw,h.Q0 (X:=(λ_=>False)) a,h.ro,h.Rt (X:=(λ_=>False)) a⟩
def bT.sJ(h:bT E g w s role sv cv kc bs){l:List UInt8}(k:Kp (λb=>(λr=>r=3\/r=4) (role b)) w w')(a:w'.heap[E.bb]?=M (eM E g s u kc))
  (d:w'.ownsRow E.B 5 1 u l.length (l.map λc=> V Ys c.toNat))(e:∀b,u.ownBlock=M b->role b=4):bT E g w' {s with stack:=l} role u cv kc bs:=
 ⟨h.Ce (X:=(λr=>r=3\/r=4)) k Vb,(h.DV (X:=(λr=>r=3\/r=4)) k Vb Vb:),a,(h.nV (X:=(λr=>r=3\/r=4)) k Vb:),d,(h.nW (X:=(λr=>r=3\/r=4)) k Vb:),(h.jD (X:=(λr=>r=3\/r=4)) k Vb:),h.eq,λj x b=>h.nX (X:=(λr=>r=3\/r=4)) k j x b Y,h.iL (X:=(λr=>r=3\/r=4)) k Vb,
  h.r1,h.r2,h.r3,e,h.r5,h.r6,h.rw,h.Q0 (X:=(λr=>r=3\/r=4)) k,h.ro,h.Rt (X:=(λr=>r=3\/r=4)) k⟩
def bT.IX(h:bT E g w s role sv cv kc bs){l:List dQ}(k:Kp (λb=>(λr=>r=2\/r=6) (role b)) w w')(a:w'.heap[E.mb]?=M (rJ E u))
  (c:w'.ownsRow E.B 214 5 u l.length (l.flatMap dQ.cells))(d:∀b,u.ownBlock=M b->role b=6):bT E g w' {s with ao:=l} role sv u kc bs:=
 ⟨h.Ce (X:=(λr=>r=2\/r=6)) k Vb,(h.DV (X:=(λr=>r=2\/r=6)) k Vb Vb:),(h.DW (X:=(λr=>r=2\/r=6)) k Vb:),a,(h.lL (X:=(λr=>r=2\/r=6)) k Vb:),(h.nW (X:=(λr=>r=2\/r=6)) k Vb:),c,h.eq,λj x b=>h.nX (X:=(λr=>r=2\/r=6)) k j x b Y,h.iL (X:=(λr=>r=2\/r=6)) k Vb,
  h.r1,h.r2,h.r3,h.r4,h.r5,d,h.rw,h.Q0 (X:=(λr=>r=2\/r=6)) k,h.ro,h.Rt (X:=(λr=>r=2\/r=6)) k⟩
def bT.Nv(h:bT E g w s role sv cv kc bs){c:Bool}(k:Kp (λb=>(λr=>r=3) (role b)) w w')(a:w'.heap[E.bb]?=M (eM E g {s with pos:=p,aR:=c} sv kc)):bT E g w' {s with pos:=p,aR:=c} role sv cv kc bs:=
 ⟨h.Ce (X:=(λr=>r=3)) k Vb,(h.DV (X:=(λr=>r=3)) k Vb Vb:),a,(h.nV (X:=(λr=>r=3)) k Vb:),(h.lL (X:=(λr=>r=3)) k Vb:),(h.nW (X:=(λr=>r=3)) k Vb:),(h.jD (X:=(λr=>r=3)) k Vb:),h.eq,λj x b=>h.nX (X:=(λr=>r=3)) k j x b Y,h.iL (X:=(λr=>r=3)) k Vb,
  h.r1,h.r2,h.r3,h.r4,h.r5,h.r6,h.rw,h.Q0 (X:=(λr=>r=3)) k,h.ro,h.Rt (X:=(λr=>r=3)) k⟩
end
section
variable{P:Program}{aW:Array Oper}{Q:Exit->Act->World->Prop}{md:Region.Mode}{S:World->Prop}{L:Nat}
def waits(md:Region.Mode)(aW:Array Oper)(j i:Nat):Bool:=
 match aW[j]? with
 |some oj=>oj.after.any λe=>Region.binds md e&&e.on==i
 |none=>Yj
def F9(h:waits md aW j i=Yk):∃oj,aW[j]?=M oj/\ ∃e∈oj.after,Region.binds md e=Yk/\e.on=i:=by
 unfold waits at h;grind
def mh(md:Region.Mode)(aW:Array Oper)(L:Nat)(listed:Array Bool):Nat->List Nat->Bool
 |i,[]=>waits md aW L i&& !listed.getD L Yk
 |i,j::p=>waits md aW j i&& !listed.getD j Yk&&mh md aW L listed j p
theorem ux{a:Array Bool}(h:waits md aW j i=Yk)(hi:a.getD i Yj=Yj):j∉Region.ready md aW a:=by
 intro b;obtain⟨_,o,f,c⟩:=mem_ready.1 b;obtain⟨g,d,e,k,l,rfl⟩:=F9 h;grind
def IW{a:Array Bool}(h:a.getD i Yk=Yj):a.getD i Yj=false:=by
 grind
def xC{a:Array Bool}(b:k∈Region.ready md aW a):∀(p:List Nat) (i:Nat),a.getD i Yk=Yj->k≠i->mh md aW L a i p=Yk->mh md aW L (a.setIfInBounds k Yk) i p=Yk/\k≠L
 |[],i,hi,c,h=>by
  simp only[mh,Vo,WD]at h⊢;have d:k≠L:=λe=>ux h.1 (IW hi) (e▸b)
  simp_all
 |j::p,i,hi,c,h=>by
  simp only[mh,Vo,WD]at h⊢;have d:k≠j:=λe=>ux h.1.1 (IW hi) (e▸b)
  have:=xC b p j h.1.2 d h.2;simp_all
def oQ{a:Array Bool}:∀(p:List Nat) (i:Nat),a.getD i Yk=Yj->mh md aW L a i p=Yk->L∉Region.ready md aW a/\a.getD L Yj=Yj
 |[],i,hi,h=>by
  simp only[mh,Vo,WD]at h;grind[ux]
 |j::p,i,hi,h=>by
  simp only[mh,Vo,WD]at h;exact oQ p j h.1.2 h.2
def cL(P:Program)(md:Region.Mode)(aW:Array Oper)(Q:Exit->Act->Yw->Prop)(S:Yw->Prop)(L:Nat):Nat->Array Bool->Act->Yw->Prop
 |0,listed,a,w=>Region.ready md aW listed=[]/\Q .normal a w
 |aC+1,listed,a,w=>
  (Region.ready md aW listed=[]->Q .normal a w)/\
  ∀i∈Region.ready md aW listed,wpOp P aW Q i (λa' w'=>((listed.setIfInBounds i Yk).getD L Yj=Yj->S w')/\cL P md aW Q S L aC (listed.setIfInBounds i Yk) a' w') a w
def xD:∀(aC:Nat) (b:Array Bool) (a:Act) (w:Yw),cL P md aW Q S L aC b a w->wpAny P md aW Q aC b a w
 |0,_,_,_,h=>h
 |aC+1,_,_,_,h=>⟨h.1,λi hi=>wpOp_mono (λa b c=>xD aC _ a b c.2) (h.2 i hi)⟩
def sG(p:List Nat)(hi:aW[i]?=M x)(l:∀(j:Nat) (o:Oper) k b,aW[j]?=M o->o.op≠ .select k b)
  (A:∀c a w,Q (.panic c) (a.put x.dst u) w->Q (.panic c) a w):
  ∀(aC:Nat) (d:Array Bool) (a:Act) (w:Yw),
   (∀j oj,aW[j]?=M oj->j≠i->d.getD j Yk=Yj->(∀e∈oj.after,Region.binds md e=Yk->e.on≠i)->x.apart aW oj=Yk)->
   i∈Region.ready md aW d->(d.size<=L\/mh md aW L d i p=Yk)->YieldsIf P aW S x u a->S w->
   cL P md aW Q S L aC (d.setIfInBounds i Yk) (a.put x.dst u) w->cL P md aW Q S L (aC+1) d a w:=by
 intro aC;induction aC with
 |zero=>
  intro d a w _ m _ r hS c;refine⟨λh=>Ve,λj n=>?_⟩;by_cases f:j=i
  .subst f;exact r.wpOp hi hS ⟨λ_=>hS,c⟩
  .have :=ready_mono n f;rw[c.1]at this;cases this
 |succ aC ih=>
  intro d a w o m q r hS c;refine⟨λh=>Ve,λj n=>?_⟩;by_cases f:j=i
  .subst f;exact r.wpOp hi hS ⟨λ_=>hS,c⟩
  .have z:=c.2 j (ready_mono n f);obtain⟨h,oj,g,B⟩:=mem_ready.1 n;have s:∀e∈oj.after,Region.binds md e=Yk->e.on≠i:=λe t y v=>by
    grind[mem_ready]
   have t:=wpOp_putIf g (o j oj g f h s) (λk b=>l i x k b hi) (λk b=>l j oj k b g) A r z;have v:∀k ok,aW[k]?=M ok->k≠i->(d.setIfInBounds j Yk).getD k Yk=Yj->
     (∀e∈ok.after,Region.binds md e=Yk->e.on≠i)->x.apart aW ok=true:=λk ok C b D y=>by
    refine o k ok C b ?_ y;by_cases D:j=k<;>simp_all
   have b:((d.setIfInBounds j Yk).size<=L\/mh md aW L (d.setIfInBounds j Yk) i p=Yk)/\((d.setIfInBounds i Yk).setIfInBounds j Yk).getD L Yj=false:=by
    rcases q with q|q
    .grind
    .have z:=xC n p i (mem_ready.1 m).1 f q;have t:=oQ p i (mem_ready.1 m).1 q;have j:i≠L:=λe=>t.1 (e▸m)
     simp_all
   refine wpOp_mono (λj k e=>⟨λ_=>e.2.1 b.2,ih _ j k v (ready_mono m (WZ f)) b.1 e.1 (e.2.1 b.2) ?_⟩) t;grind[Array.setIfInBounds_comm]
def vJ(md:Region.Mode)(l:List Oper)(L:Nat)(listed:Array Bool)(i:Nat)(p:List Nat):Bool:=
 Region.noSelect l.toArray&&Region.free md l.toArray listed i&&(Region.ready md l.toArray listed).contains i&&(decide (listed.size<=L)||mh md l.toArray L listed i p)
def lK{l rest:List Oper}(h:l.drop i=x::rest):l.toArray[i]?=M x:=by
 have:(l.drop i)[0]?=M x:=by rw[h];rfl
 grind
def ph{l:List Oper}(i:Nat)(p:List Nat){rest:List Oper}{a b:Array Bool}(hi:l.drop i=x::rest)
  (d:vJ md l L a i p=Yk)(e:a.setIfInBounds i Yk=b)(j:x.guard=H)(f:∀c G W,Q (.panic c) (G.put x.dst u) W->Q (.panic c) G W)(hS:S W)(g:∀W,S W->(execOp G.eval x).run P W=.ok (.value u) W)
  (h:cL P md l.toArray Q S L k b (G.put x.dst u) W):cL P md l.toArray Q S L (k+1) a G W:=by
 subst e;simp only[vJ,Vo,Wq,Vx]at d;exact sG p (lK hi) (Region.noSelect_spec d.1.1.1) f k a G W (Region.free_spec (lK hi) d.1.1.2) Ve Ve (Yo ⟨by grind[Region.wanted],g⟩) hS h
def tk{l:List Oper}(i:Nat)(p:List Nat){rest:List Oper}{a:Array Bool}(hi:l.drop i=x::rest)
  (b:vJ md l L a i p=Yk)(d:x.guard=H)(e:∀c G W,Q (.panic c) (G.put x.dst u) W->Q (.panic c) G W)(hS:S W)(f:∀W,S W->(execOp G.eval x).run P W=.ok (.value u) W)
  (h:cL P md l.toArray Q S L k (a.setIfInBounds i Yk) (G.put x.dst u) W):cL P md l.toArray Q S L (k+1) a G W:=ph i p hi b U d e hS f h
def DR{l:List Oper}(i:Nat)(p:List Nat){rest:List Oper}{a b:Array Bool}(hi:l.drop i=x::rest)
  (d:vJ md l L a i p=Yk)(e:a.setIfInBounds i Yk=b)(f:Region.wanted x (yielded l.toArray G.tmps)=Yj)(g:∀c G W,Q (.panic c) (G.put x.dst undef) W->Q (.panic c) G W)(hS:S W)
  (h:cL P md l.toArray Q S L k b (G.put x.dst undef) W):cL P md l.toArray Q S L (k+1) a G W:=by
 subst e;simp only[vJ,Vo,Wq,Vx]at d;exact sG p (lK hi) (Region.noSelect_spec d.1.1.1) g k a G W (Region.free_spec (lK hi) d.1.1.2) Ve Ve (Yp ⟨f,U⟩) hS h
def vK{l:List Oper}(i:Nat){rest:List Oper}{a b:Array Bool}(hi:l.drop i=x::rest)(f:Region.ready md l.toArray a=[i])(g:a.setIfInBounds i Yk=b)
  (h:∀K:Act->Yw->Prop,(∀d c,((b.getD L Yj=Yj->S c)/\cL P md l.toArray Q S L k b d c)->K d c)->if Region.wanted x (yielded l.toArray G.tmps)=Yk then Oper.wp P x G W K Q else K (G.put x.dst undef) W):cL P md l.toArray Q S L (k+1) a G W:=by
 subst g;refine⟨λe=>Ve,λj e=>?_⟩;rw[f,Wv]at e;subst e;have:=h _ (λd c e=>e);unfold wpOp;simp only[lK hi];grind
def Ga{l:List Oper}(i:Nat){rest:List Oper}{a c:Array Bool}(hi:l.drop i=x::rest)(f:Region.ready md l.toArray a=[i])(g:a.setIfInBounds i Yk=c)
  (h:∀K:Act->Yw->Prop,(∀d b,S b->(S b->cL P md l.toArray Q S L k c d b)->K d b)->if Region.wanted x (yielded l.toArray G.tmps)=Yk then Oper.wp P x G W K Q else K (G.put x.dst undef) W):cL P md l.toArray Q S L (k+1) a G W:=
 vK i hi f g (λK j=>h K (λd b e m=>j d b ⟨λ_=>e,m e⟩))
def Gb{l:List Oper}(i:Nat){rest:List Oper}{a b:Array Bool}(hi:l.drop i=x::rest)(e:Region.ready md l.toArray a=[i])(f:a.setIfInBounds i Yk=b)(m:b.getD L Yj=Yk)
  (h:∀K:Act->Yw->Prop,(∀c d,cL P md l.toArray Q S L k b c d->K c d)->if Region.wanted x (yielded l.toArray G.tmps)=Yk then Oper.wp P x G W K Q else K (G.put x.dst undef) W):cL P md l.toArray Q S L (k+1) a G W:=
 vK i hi e f (λK g=>h K (λc d j=>g c d ⟨λh=>Ve,j⟩))
def DS{l:List Oper}{a:Array Bool}(b:Region.ready md l.toArray a=[])(h:Q .normal G W):∀aC,cL P md l.toArray Q S L aC a G W
 |0=>⟨b,h⟩
 |_+1=>⟨λ_=>h,by rw[b];simp⟩
def DT{l:List Oper}(L:Nat)(S:Yw->Prop){a:Array Bool}(b:P.follows .mixedOrders=Yk)(c:l.length=i)(d:Array.replicate i Yj=a)(hS:S W.drew)
  (h:S W.drew->cL P .any l.toArray Q S L i a G W.drew):(Code.region k l.toArray Yk).wp P Q G W:=by
 subst c d;exact wp_region_any b (xD _ _ _ _ (h hS))
end
def pS:(∀(a:Act) (v:Yx),a.put H v=a)/\(∀(a:Act) (t:Tmp) (v:Yx),a.put (M t) v={a with tmps:=a.tmps.setIfInBounds t v})/\(∀{b:Type} (l:List b) (i:Nat) (x:b),l.toArray.setIfInBounds i x=(l.set i x).toArray)/\
  (∀{b:Type} (y:b) (l:List b) (x:b),(y::l).set 0 x=x::l)/\(∀{b:Type} (y:b) (l:List b) (n:Nat) (x:b),(y::l).set (n+1) x=y::l.set n x):=
 ⟨λ_ _=>rfl,λ_ _ _=>rfl,λ_ _ _=>Vc,λ_ _ _=>rfl,λ_ _ _ _=>rfl⟩
section
variable{P:Program}{Q:Exit->Act->World->Prop}{md:Region.Mode}{S:World->Prop}{L aC:Nat}{l rest:List Oper}{oi:Oper}{v:Value}{listed:Array Bool}{a a':Act}{w:World}
def reach(md:Region.Mode)(aW:Array Oper)(L:Nat)(listed:Array Bool):Nat->Nat->Bool
 |0,_=>Yj
 |f+1,i=>(waits md aW L i&& !listed.getD L Yk)||(List.range aW.size).any λj=>waits md aW j i&& !listed.getD j Yk&&reach md aW L listed f j
def vL{b:Array Oper}:∀f i,reach md b L listed f i=Yk-> ∃p,mh md b L listed i p=Yk
 |0,_,h=>by cases h
 |f+1,i,h=>by
  simp only[reach,Wq,XE,Vo]at h;rcases h with h|⟨j,-,c,d⟩
  .exact⟨[],by simpa[mh]using h⟩
  .obtain⟨p,e⟩:=vL f j d;exact⟨j::p,by simpa[mh,e]using c⟩
def Nu(md:Region.Mode)(l:List Oper)(L:Nat)(listed:Array Bool)(i:Nat):Bool:=
 Region.noSelect l.toArray&&Region.free md l.toArray listed i&&(Region.ready md l.toArray listed).contains i&&(decide (listed.size<=L)||reach md l.toArray L listed l.length i)
def tj(i:Nat)(h:cL P md l.toArray Q S L aC (listed.setIfInBounds i Yk) a' w)(hi:l.drop i=oi::rest:=by rfl)(d:Nu md l L listed i=true:=by kernel_rfl)(e:oi.guard=none:=by rfl)
  (f:∀w,S w->(execOp a.eval oi).run P w=.ok (.value v) w:=by intro _ h;(try dsimp only at h);go_simp;all_goals with_reducible rfl)(g:∀c a w,Q (.panic c) (a.put oi.dst v) w->Q (.panic c) a w:=by exact λ_ _ _ h=>h)(j:a.put oi.dst v=a':=by simp only[pS];rfl)(hS:S w:=by assumption):cL P md l.toArray Q S L (aC+1) listed a w:=by
 subst j;simp only[Nu,Vo,Wq]at d;obtain⟨c,b|b⟩:=d
 .exact ph i [] hi (by simp only[vJ,Vo,Wq];exact⟨c,Yo b⟩) U e g hS f h
 .obtain⟨p,k⟩:=vL _ _ b;exact ph i p hi (by simp only[vJ,Vo,Wq];exact⟨c,Yp k⟩) U e g hS f h
def tn(h:cL P md l.toArray Q S L aC ((listed.setIfInBounds j Yk).setIfInBounds (j+1) Yk) a' w)(hi:l.drop (j+1)=oi::rest:=by rfl)(b:Nu md l L (listed.setIfInBounds j Yk) (j+1)=true:=by kernel_rfl)(d:oi.guard=none:=by rfl)
  (e:∀w,S w->(execOp a.eval oi).run P w=.ok (.value v) w:=by intro _ h;(try dsimp only at h);go_simp;all_goals with_reducible rfl)(f:∀c a w,Q (.panic c) (a.put oi.dst v) w->Q (.panic c) a w:=by exact λ_ _ _ h=>h)(g:a.put oi.dst v=a':=by simp only[pS];rfl)(hS:S w:=by assumption):cL P md l.toArray Q S L (aC+1) (listed.setIfInBounds j Yk) a w:=tj (j+1) h hi b d e f g hS
def sj(i:Nat)(p:List Nat)(h:cL P md l.toArray Q S L aC (listed.setIfInBounds i Yk) a' w)(hi:l.drop i=oi::rest:=by rfl)(b:vJ md l L listed i p=true:=by kernel_rfl)(d:Region.wanted oi (yielded l.toArray a.tmps)=false:=by rfl)
  (e:∀c a w,Q (.panic c) (a.put oi.dst undef) w->Q (.panic c) a w:=by exact λ_ _ _ h=>h)(f:a.put oi.dst undef=a':=by simp only[pS];rfl)(hS:S w:=by assumption):cL P md l.toArray Q S L (aC+1) listed a w:=by
 subst f;exact DR i p hi b U d e hS h
def oj(i:Nat)(h:∀K:Act->Yw->Prop,(∀a' b,S b->(S b->cL P md l.toArray Q S L aC (listed.setIfInBounds i Yk) a' b)->K a' b)->if Region.wanted oi (yielded l.toArray a.tmps)=Yk then Oper.wp P oi a w K Q else K (a.put oi.dst undef) w)(hi:l.drop i=oi::rest:=by rfl)(c:Region.ready md l.toArray listed=[i]:=by kernel_rfl):cL P md l.toArray Q S L (aC+1) listed a w:=Ga i hi c U h
def ej(i:Nat)(h:∀K:Act->Yw->Prop,(∀a' b,cL P md l.toArray Q S L aC (listed.setIfInBounds i Yk) a' b->K a' b)->if Region.wanted oi (yielded l.toArray a.tmps)=Yk then Oper.wp P oi a w K Q else K (a.put oi.dst undef) w)(hi:l.drop i=oi::rest:=by rfl)(c:Region.ready md l.toArray listed=[i]:=by kernel_rfl)(d:(listed.setIfInBounds i Yk).getD L Yj=true:=by kernel_rfl):cL P md l.toArray Q S L (aC+1) listed a w:=Gb i hi c U d h
def dj(h:Q .normal a w)(b:Region.ready md l.toArray listed=[]:=by kernel_rfl):cL P md l.toArray Q S L aC listed a w:=DS b h aC
def rj(L n:Nat)(S:Yw->Prop)(hS:S w.drew)(h:S w.drew->cL P .any l.toArray Q S L n (Array.replicate n Yj) a w.drew)(b:P.follows .mixedOrders=true:=by kernel_rfl)(c:l.length=n:=by rfl):(Code.region k l.toArray Yk).wp P Q a w:=DT L S b c U hS h
end
def bD:dQ:=⟨0,0,0,0,0⟩
section
variable{P:Program}{aW:Array Oper}{Q:Exit->Act->World->Prop}{md:Region.Mode}{S:World->Prop}{L:Nat}
def Gc{l:List Oper}(i j:Nat){oj:Oper}{p rj:List Oper}{a n o:Array Bool}(hi:l.drop i=x::p)(q:l.drop j=oj::rj)(r:Region.ready md l.toArray a=[i,j])(h:a.setIfInBounds i Yk=n)(m:a.setIfInBounds j Yk=o)
  (e:∀K:Act->Yw->Prop,(∀d c,S c->(S c->cL P md l.toArray Q S L b n d c)->K d c)->if Region.wanted x (yielded l.toArray G.tmps)=Yk then Oper.wp P x G W K Q else K (G.put x.dst undef) W)
  (g:∀K:Act->Yw->Prop,(∀d c,S c->(S c->cL P md l.toArray Q S L b o d c)->K d c)->if Region.wanted oj (yielded l.toArray G.tmps)=Yk then Oper.wp P oj G W K Q else K (G.put oj.dst undef) W):cL P md l.toArray Q S L (b+1) a G W:=by
 subst h m;refine⟨λf=>Ve,λk f=>?_⟩;rw[r]at f;rcases Wg.1 f with f|f
 .subst f;have:=e (λd c=>((a.setIfInBounds k Yk).getD L Yj=Yj->S c)/\cL P md l.toArray Q S L b (a.setIfInBounds k Yk) d c) (λd c e g=>⟨λ_=>e,g e⟩);unfold wpOp;simp only[lK hi];grind
 .rw[Wv]at f;subst f;have:=g (λd c=>((a.setIfInBounds k Yk).getD L Yj=Yj->S c)/\cL P md l.toArray Q S L b (a.setIfInBounds k Yk) d c) (λd c e g=>⟨λ_=>e,g e⟩);unfold wpOp;simp only[lK q];grind
end
section
variable{P:Program}{Q:Exit->Act->World->Prop}{md:Region.Mode}{S:World->Prop}{L aC:Nat}{l ri rj:List Oper}{oi oj:Oper}{listed:Array Bool}{a:Act}{w:World}
def wj(i j:Nat)(d:∀K:Act->Yw->Prop,(∀c b,S b->(S b->cL P md l.toArray Q S L aC (listed.setIfInBounds i Yk) c b)->K c b)->if Region.wanted oi (yielded l.toArray a.tmps)=Yk then Oper.wp P oi a w K Q else K (a.put oi.dst undef) w)
  (e:∀K:Act->Yw->Prop,(∀c b,S b->(S b->cL P md l.toArray Q S L aC (listed.setIfInBounds j Yk) c b)->K c b)->if Region.wanted oj (yielded l.toArray a.tmps)=Yk then Oper.wp P oj a w K Q else K (a.put oj.dst undef) w)(hi:l.drop i=oi::ri:=by rfl)(f:l.drop j=oj::rj:=by rfl)(g:Region.ready md l.toArray listed=[i,j]:=by kernel_rfl):cL P md l.toArray Q S L (aC+1) listed a w:=Gc i j hi f g U U d e
end
section
variable{P:Program}{Q:Exit->Act->World->Prop}{md:Region.Mode}{S:World->Prop}{L:Nat}
end
section
variable{P:Program}(w:World)
theorem ru(z:Yx)(n:Nat):(Builtin.zeroCells #[z] n).toList=List.replicate n z:=by
 apply Xz;intro k;simp[Builtin.zeroCells,XK];grind
def sH(f:Nat)(t tn B e:TypeId)(i:TypeInfo)(z:Yx)(o:Nat)(C D:IntKind)(p:P.underlying t=M (.slice e))(c:P.underlying tn=M (.int D))(hi:P.info? e=M i)(E:i.zero=M z)
  (F:i.size=1)(G:i.bytes=o)(h0:z.cells=#[z])(h1:z.oneCell'=Yk)
  (v:Yx)(n:Nat)(l:List Yx)(h:w.ownsRow f e 1 v n l)(m:Nat)(I:n+m<=maxLen)(q:(n+m)*o<=140737488355328)(J:f<=w.heap.size):
  ∃a b,(Builtin.append_ #[t,tn] B #[v,V C m]).run P w=.ok a b/\b.ownsRow f e 1 a (n+m) (l++List.replicate m z)/\w.grownBy b v.ownBlock/\(a.ownBlock=v.ownBlock\/a.ownBlock=M w.heap.size):=by
 subst G;have hl:=h.1;have h2:n+m<=9223372036854775807:=by grind[maxLen]
 have hw:IntKind.i64.wrap (m:Int)=m:=by grind[IntKind.wrap_i64]
 have K: ¬((m:Int)<0):=Y
 have h3:m*i.bytes<=(n+m)*i.bytes:=Wm _ Y;have L: ¬(281474976710656<(m:Int)*(i.bytes:Int)):=by
  omega
 by_cases hm:m=0
 .subst hm;have b:IntKind.i64.wrap 0=0:=Vb
  refine⟨v,w,?_,Ve,fY _ _,Yo U⟩;rcases h.2 with⟨rfl,rfl⟩|⟨g,a,d,rfl,r,N,s,j,R,S⟩
  .simp[Builtin.append_,run_underlying p,run_underlying c,sizeOf,typeInfo,hi,asInt,asIntOf,b]
  .simp[Builtin.append_,run_underlying p,run_underlying c,sizeOf,typeInfo,hi,asInt,asIntOf,b,s,storeCells]
 .have x:∀(b:Nat),b<n+m-> ∀(row:Option Nat),
    (w.drew.alloc (Yl (l.toArray++Builtin.zeroCells z.cells m++Builtin.zeroCells z.cells (grownCap w (n+m) b e - (n+m))) e)).ownsRow f e 1 (Q (M ⟨w.heap.size,0,H⟩) (n+m) (grownCap w (n+m) b e)) (n+m) (l++List.replicate m z)/\
    w.grownBy (w.drew.alloc (Yl (l.toArray++Builtin.zeroCells z.cells m++Builtin.zeroCells z.cells (grownCap w (n+m) b e - (n+m))) e)) row:=by
   intro b y row;have u:=grownCap_ge w (n+m) b e;have j:=grownCap_le_maxLen w (n+m) b e I;refine⟨⟨Ve,Yp ⟨w.heap.size,_,_,U,J,ai w.drew _,u,j,?_,?_⟩⟩,⟨U,U,U,Vc,λk T _=>by exact Below.heap_alloc _ _ _ T⟩⟩<;>grind[ru,List.length_replicate]
  rcases h.2 with⟨rfl,rfl⟩|⟨g,a,d,rfl,r,N,s,j,R,S⟩
  .have u:=WS Y;subst u;have W:=Lib.run_append_grow_zeros (P:=P) w t tn B e i z C D p c hi E H 0 0 [] (run_firstCells_none w.drew i.size 0 0 0) m Y Y Y Y Y (growslice_fits Y q);have b:=x 0 Y (Value.ownBlock (Q H 0 0));exact⟨_,_,W,b.1,b.2,Yp U⟩
  .by_cases y:n+m<=a
   .have A:=run_storeCells_at P g n e (List.replicate m z) 0 d w N Vd (λu hu=>Ve);have X:(Builtin.append_ #[t,tn] B #[Q (M ⟨g,0,H⟩) n a,V C m]).run P w=.ok (Q (M ⟨g,0,H⟩) (n+m) a) (w.setRow g (d.toList.take n++List.replicate m z++d.toList.drop (n+m)).toArray):=by
     simp only[VU,V0]at A;have u:(Builtin.zeroCells z.cells m).toList=List.replicate m z:=by grind[ru]
     simp[Builtin.append_,run_underlying p,run_underlying c,sizeOf,typeInfo,zeroValue,hi,E,asInt,asIntOf,hw,K,L,F,hm,y,Addr.add_lit,u,A]
    refine⟨_,_,X,⟨Ve,Yp ⟨g,a,_,U,r,setRow_heap w g d _ e _ N,y,j,?_,?_⟩⟩,⟨U,U,U,Vc,λk _ T=>setRow_other w g k _ (λe=>T (by grind[Value.ownBlock]))⟩,Yo U⟩<;>grind
   .have k:=h.cells (g:=g) U;have u:=run_firstCells_some (P:=P) w.drew i.size n ⟨g,0,H⟩ n a l Ve k;have W:=Lib.run_append_grow_zeros (P:=P) w t tn B e i z C D p c hi E (M ⟨g,0,H⟩) n a l u m Y Y Y Y Y (growslice_fits Y q);have b:=x a Y (Value.ownBlock (Q (M ⟨g,0,H⟩) n a));exact⟨_,_,W,b.1,b.2,Yp U⟩
def iY{d:Array Oper}{o:Oper}{K:Act->Yw->Prop}{a:Exit->Act->Yw->Prop}{E:Prop}(C:o.guard=H)(s x:Operand)(t tn:TypeId)
  (ho:o.op=.call {callee:=.builtin .append,args:=#[s,x],argTypes:=#[t,tn]})
  (b:Nat)(e:TypeId)(i:TypeInfo)(z:Yx)(c:Nat)(A B:IntKind)(D:P.underlying t=M (.slice e))(f:P.underlying tn=M (.int B))(hi:P.info? e=M i)(F:i.zero=M z)
  (g:i.size=1)(j:i.bytes=c)(k:z.cells=#[z])(l:z.oneCell'=Yk)
  (v:Yx)(n:Nat)(p:List Yx)(hs:G.eval s=v)(q:w.ownsRow b e 1 v n p)(m:Nat)(hx:G.eval x= V A m)
  (r:n+m<=maxLen)(u:(n+m)*c<=140737488355328)(y:b<=w.heap.size)
  (h:∀v' w',w'.ownsRow b e 1 v' (n+m) (p++List.replicate m z)->w.grownBy w' v.ownBlock->(v'.ownBlock=v.ownBlock\/v'.ownBlock=M w.heap.size)->K (G.put o.dst v') w'):
  if Region.wanted o (yielded d G.tmps)=Yk then Oper.wp P o G w K a else E:=by
 have I:Region.wanted o (yielded d G.tmps)=true:=by grind[Region.wanted]
 rw[Vi I];obtain⟨v',w',hr,h2,h3,h4⟩:=sH (P:=P) w b t tn o.type e i z c A B D f hi F g j k l v n p q m r u y;exact aas
end
section
variable{P:Program}(w:World)
end
end
end Go.Proofs.YtdeplgkhmebalaaGreatDoor
