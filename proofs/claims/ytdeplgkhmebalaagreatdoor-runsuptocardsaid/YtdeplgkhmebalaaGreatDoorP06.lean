/- The document's reader: lists of types; which instructions there are. -/
import Derived.Test.YtdeplgkhmebalaaGreatDoorP05
import Derived.Test.YtdeplgkhmebalaaGreatDoorRows
import Derived.ProofKit
import Derived.OpenShut
import Derived.Stop.Joined
import Derived.Test.YtdeplgkhmebalaaGreatDoorP03
set_option linter.all false
set_option maxHeartbeats 4000000
set_option maxRecDepth 100000
variable{X:Go.World}{k t j N q c d m o p r:Nat}{u z:Go.Value}{y:Int}{D:List UInt8}{L I:List Int}{g:UInt8}{F:List Go.Value}{P R:Nat->Prop}{T:Go.TypeId}
namespace Go.Proofs.YtdeplgkhmebalaaGreatDoor
open Bool renaming false->Yj,true->Yk
open Except renaming error->Ym,ok->Yn
open Go renaming Calls->Yy,Value->Yx,World->Yw
open Go.Ending renaming returned->Yq
open Go.IntKind renaming i64->O,u64->Yr,u8->Ys
open Go.Obj renaming cells->Yl
open Go.Value renaming bool->Yt,int->V,pointer->Yv,slice->Q,tuple->Yu
open Option renaming none->H,some->M
open Or renaming inl->Yo,inr->Yp
open Proofs.Tryz
variable{f x:Rf.PS}{e h:Rf.PE}{A C:Rf.ez}
namespace Rf
section
open Go.RowKit
def fO(op:UInt8):Bool:=
 let n:=op.toNat
 n<=5||(11<=n&&n<=16)||n=26||n=27||(32<=n&&n<=36)||n=40||n=41||n=44||n=45||n=54||n=55||n=58||(63<=n&&n<=66)||(69<=n&&n<=90)||(103<=n&&n<=138)||n=167||n=172||n=173||n=224||n=225
def uu(w:Yw)(a:UInt8):
  fX 191 #[V Ys a.toNat] w (Yt (fO a)):=by
 have b:fO a=(decide (a.toNat<=5)||(decide (11<=a.toNat)&&decide (a.toNat<=16))||decide (a.toNat=26)||decide (a.toNat=27)||(decide (32<=a.toNat)&&decide (a.toNat<=36))||decide (a.toNat=40)||decide (a.toNat=41)||decide (a.toNat=44)||decide (a.toNat=45)||decide (a.toNat=54)||decide (a.toNat=55)||decide (a.toNat=58)||(decide (63<=a.toNat)&&decide (a.toNat<=66))||(decide (69<=a.toNat)&&decide (a.toNat<=90))||(decide (103<=a.toNat)&&decide (a.toNat<=138))||decide (a.toNat=167)||decide (a.toNat=172)||decide (a.toNat=173)||decide (a.toNat=224)||decide (a.toNat=225)):=rfl;generalize fO a=R at *;have c:=a.toNat_lt;generalize a.toNat=n at *;change Hid _ at b;go_enter func191,ntmps191;go_wp2;all_goals go_ret
 all_goals refine⟨lG ?_,U⟩
 all_goals rw[b.out,V4]
 all_goals clear b
 all_goals first |(simp;omega)|(simp;done)|(go_light;simp at *;omega)
def et(B:PE->List (List UInt8)->List UInt8->Bool->PS->Bool×PS)(E:PE)(ag:List (List UInt8))(op n:Nat)(dY:Int)(stack:List UInt8)(σ:PS):List UInt8×PS:=
 if E.d=16 then ([],cA 3 dY σ)else
 let aL:List UInt8:=if n=64 then []else [UInt8.ofNat n]
 let around:=ag++[if op=3 then []else aL]
 let r:=B {E with d:=E.d+1} around aL (decide (op=4)) σ
 (stack++aL,if r.1 then (B {E with d:=E.d+1} around aL Yj r.2).2 else if op=4/\aL≠[]then cA 3 (r.2.place-1) r.2 else r.2)
def az(G:ez):Nat->PE->List (List UInt8)->List UInt8->Bool->List UInt8->Bool->PS->Bool×PS
 |0,_,_,_,_,_,_,σ=>(Yj,σ)
 |f+1,E,ag,aL,other,stack,dead,σ=>
  if bn σ then (Yj,σ)else
  let x:=b8 E σ
  if bn x.2 then (Yj,x.2)else
  if x.1=5\/x.1=11 then (decide (x.1=5),if (dead=Yj/\stack≠aL)\/(x.1=5/\other=Yj)then cA 3 σ.place x.2 else x.2)else
  if fO x.1=Yj then (Yj,cA 2 σ.place x.2)else
  if dead=Yk then (Yj,cA 3 σ.place x.2)else
  let y:=aX E G ag stack x.1.toNat x.2
  let o:=gp stack y.1.take
  let σ3:=if y.1.ok=Yj\/o.2=Yj then cA 3 σ.place y.2 else y.2
  if bn σ3 then (Yj,σ3)else
  let z:=if x.1=2\/x.1=3\/x.1=4 then et (λE' l' r' o' wW=>az G f E' l' r' o' [] Yj wW) E ag x.1.toNat y.1.n σ.place (o.1++y.1.put) σ3 else (o.1++y.1.put,σ3)
  az G f E ag aL other z.1 (decide (x.1=0\/x.1=12\/x.1=14\/x.1=15)) z.2
def PE.left(E:PE):PS->Nat
 | Yn i=>E.en-i
 | Ym _=>0
def l6(E:PE)(k:Nat)(σ wW:PS):Prop:=bn wW=Yk\/ ∃i i',σ= Yn i/\wW= Yn i'/\i+k<=i'/\i'<=E.en
theorem l6.trans{b:PS}(h:l6 e k f b)(a:l6 e t b x)(c:bn b=Yk->bn x=Yk):l6 e (k+t) f x:=by
 rcases a with a|⟨i,d,rfl,rfl,m,g⟩
 .exact Yo a
 .rcases h with h|⟨j,n,rfl,l,o,p⟩
  .exact Yo (c h)
  .cases l;exact Yp ⟨j,d,U,U,Y,g⟩
theorem l6.mono(h:l6 e k f x)(g:t<=k):l6 e t f x:=by
 rcases h with h|⟨i,a,b,c,j,d⟩
 .exact Yo h
 .exact Yp ⟨i,a,b,c,Y,d⟩
theorem l6.refl(h:∀i,f= Yn i->i<=e.en):l6 e 0 f f:=by
 cases f with
 |ok i=>exact Yp ⟨i,i,U,U,Y,h i U⟩
 |error x=>exact Yo U
theorem l6.left(h:l6 e k f x)(a:bn x=Yj):e.left x+k<=e.left f:=by
 rcases h with h|⟨i,b,rfl,rfl,c,d⟩<;>grind[PE.left]
theorem Np(h:bn f=Yk):e.left f=0:=by
 cases f with
 |ok i=>cases h
 |error x=>rfl
def gu{σ:PS}(e a:Int):bn (cA e a σ)=true:=by cases σ<;>rfl
theorem iK(e a:Int):l6 h k f (cA e a x):= Yo (gu e a)
theorem o9{E:PE}{σ:PS}:l6 E 1 σ (b8 E σ).2:=by
 cases σ with
 |error x=>exact Yo U
 |ok i=>
  simp only[b8];split
  .exact Yo U
  .exact Yp ⟨i,i+1,U,U,Y,Y⟩
theorem DK{E:PE}{a b c:UInt8}{σ:PS}:l6 E 1 σ (cB E a b c σ).2:=by
 grind[cB,iK,o9]
def J3(r:Nat):∀(a:List Bool) (b:PS),l6 e 1 b (gT e y r a b).2:=by
 induction r with
 |zero=>intro a b;exact iK _ _
 |succ r ih=>
  intro a b;rw[gT];split
  .rename_i h;exact Yo h
  .rename_i h;split
   .exact(o9.trans (ih _ _) (λc=>Ve)).mono Y
   grind[o9]
theorem xA   :l6 e 1 f (bH e m f).2:=J3 m [] f
theorem DL   :l6 e 1 f (uM e y f).2:=by
 grind[uM,iK,xA]
theorem aaX   :l6 e 1 f (sM e k f).2:=by
 grind[sM,iK,xA]
theorem zN{a:List (List UInt8)} :l6 e 1 f (bf e a f).2:=by
 grind[bf,DL]
def J4{a:List (List UInt8)}(r:Nat):∀(k:Nat) (first :List UInt8) (c:Bool) (d:List Int) (b:PS),(∀i,b= Yn i->i<=e.en)->l6 e 0 b (eD e a r k first c d b).2:=by
 induction r with
 |zero=>intro k first c d b h;exact l6.refl h
 |succ r ih=>
  intro k first c d b h
  rw[eD];split
  .rename_i g;exact Yo g
  .have f:l6 e 1 b (bf e a b).2:=zN;have j:∀i,(bf e a b).2= Yn i->i<=e.en:=by
    intro i hi;rcases f with f|⟨_,m,_,l,_,n⟩
    .rw[hi]at f;cases f
    grind
   have l:=ih (k+1) (if k=0 then (bf e a b).1.2 else first) (c&&decide ((if k=0 then (bf e a b).1.2 else first)=(bf e a b).1.2)) (d++[((bf e a b).1.1:Int)]) (bf e a b).2 j;have i:bn (bf e a b).2=Yk->bn (eD e a r (k+1) (if k=0 then (bf e a b).1.2 else first) (c&&decide ((if k=0 then (bf e a b).1.2 else first)=(bf e a b).1.2)) (d++[((bf e a b).1.1:Int)]) (bf e a b).2).2=true:=by
    intro g;cases r with
    |zero=>exact g
    |succ r=>simp_all[eD]
   exact(f.trans l i).mono Y
theorem uv(h:l6 e k f x):∀i,x= Yn i->i<=e.en:=by
 intro i hi;rcases h with h|⟨_,a,_,b,_,c⟩
 .rw[hi]at h;cases h
 grind
theorem Cc{b:List (List UInt8)}{first:List UInt8}{a:Bool}(h:bn f=Yk):eD e b r k first a L f=((first,a,L),f):=by
 cases r with
 |zero=>rfl
 |succ r=>simp_all[eD]
theorem J5{a:List (List UInt8)} :l6 e 1 f (er e a f).2:=by
 unfold er;simp only;exact(DL.trans (J4 _ _ _ _ _ _ (uv DL)) (λh=>by grind[Cc])).mono Y
theorem J6(h:∀i,f= Yn i->i<=e.en):l6 e 0 f (iX e A k f).2:=by
 grind[iX,eK,dn,l6.refl,l6.mono,aaX,DL]
def qo{E:PE}{G:ez}{ag:List (List UInt8)}{stack:List UInt8}{op:Nat}{σ:PS}(h:∀i,σ= Yn i->i<=E.en):l6 E 0 σ (aX E G ag stack op σ).2:=by
 grind[aX,l6.refl,J6,l6.mono,DL,J5,zN,DK]
def J7{E:PE}{a:List (List UInt8)}(e:∀l∈a,l.length<=1000)(r:Nat):∀(k:Nat) (first :List UInt8) (b:Bool) (c:List Int) (d:PS),first.length<=1000->(eD E a r k first b c d).1.1.length<=1000:=by
 induction r with
 |zero=>intro k first b c d h;exact h
 |succ r ih=>
  grind[eD,qm]
def J8{E:PE}{a:List (List UInt8)}{stack:List UInt8}{op:Nat}{σ:PS}(b:∀l∈a,l.length<=1000)(g:∀x∈A.funcs,x.1.length<=1000/\x.2.length<=1000):
  (aX E A a stack op σ).1.take.length<=1001/\(aX E A a stack op σ).1.put.length<=1000:=by
 have c:=qm (E:=E) (σ:=σ) b;have d:(a.getD 0 []).length<=1000:=by
  simp only[List.getD];cases e:a[0]? with
  |none=>simp
  |some l=>exact b l (Vw e)
 have f:∀n,(A.funcs.getD n ([],[])).1.length<=1000/\(A.funcs.getD n ([],[])).2.length<=1000:=by
  intro n;simp only[List.getD];cases e:A.funcs[n]? with
  |none=>simp
  |some l=>exact g l (Vw e)
 unfold aX;split
 .simp
 split
 .constructor
  .show(if op=4 then [127]else ([]:List UInt8)).length<=1001
   split <;>simp
  .simp
 split
 .constructor
  .show((bf E a σ).1.2++(if op=13 then [127]else ([]:List UInt8))).length<=1001
   rw[Vn];split <;>simp <;>omega
  .exact c
 split
 .have :=J7 (E:=E) b ((uM E 16 σ).1+1) 0 [] Yk [] (uM E 16 σ).2 Vc;constructor
  .show((eD E a ((uM E 16 σ).1+1) 0 [] Yk [] (uM E 16 σ).2).1.1++[127]).length<=1001
   simp;omega
  .exact this
 split
 .exact⟨by show(a.getD 0 []).length<=1001;omega,d⟩
 split
 .split
  .simp
  .have :=f (uM E ((A.funcs.length:Int)-1) σ).1;exact⟨by show(A.funcs.getD _ ([],[])).1.length<=1001;omega,this.2⟩
 split
 .split <;>simp
 split
 .split <;>simp
 unfold iX;split
 .unfold eK;simp only;split
  .simp
  .constructor
   .show(if op=32 then ([]:List UInt8)else _).length<=1001
    split <;>simp
   .show(if op=33 then ([]:List UInt8)else _).length<=1000
    split <;>simp
 split
 .unfold dn;simp only;split
  .simp
  .constructor
   .show(if op=35 then ([]:List UInt8)else _).length<=1001
    split <;>simp
   .show(if op=36 then ([]:List UInt8)else _).length<=1000
    split <;>simp
 split
 .unfold vI;split
  .simp
  split
  .simp
  split <;>simp
 split
 .simp
 split
 .simp
 unfold rG;repeat' split
 all_goals simp
end
end Rf
section
open Go.RowKit
theorem sD{ts m:List UInt8}:((Rf.gp D ts).2=Yk/\(Rf.gp D ts).1=m)↔D=m++ts:=by
 unfold Rf.gp;constructor
 .rintro⟨a,b⟩;split at a
  .cases a
  .rename_i h;rw[Va h]at b;simp only[Vx]at a;grind[List.take_append_drop]
 simp_all[Va]
structure Nd where
 op:UInt8
 n:Nat
 ag:List Int
 body:List Nd
 els:List Nd
 value:Nat
def rs(t:UInt8):List UInt8:=if t=64 then []else [t]
def Nq(t:UInt8):(rs t).length<=1:=by grind[rs]
inductive Tree (G:Rf.ez):Rf.PE->List (List UInt8)->List UInt8->Bool->List UInt8->Bool->Nat->List Nd->Bool->Nat->Prop
 |fW {E ag aL other stack dead i x j} (h:Rf.b8 E (Yn i)=(x,Yn j)) (f:x=5\/x=11) (a:dead=Yk\/stack=aL) (g:x=5->other=Yk):Tree G E ag aL other stack dead i [] (decide (x=5)) j
 |one {E ag aL other stack i x j y k m l e q} (h:Rf.b8 E (Yn i)=(x,Yn j)) (a:x≠5/\x≠11) (g:x≠2/\x≠3/\x≠4) (a:Rf.fO x=Yk) (g:Rf.aX E G ag stack x.toNat (Yn j)=(y,Yn k)) (g:y.ok=Yk) (a:stack=m++y.take)
   (t:Tree G E ag aL other (m++y.put) (decide (x=0\/x=12\/x=14\/x=15)) k l e q):Tree G E ag aL other stack Yj i (⟨x,y.n,y.ag,[],[],y.value⟩::l) e q
 |az {E ag aL other stack i x j t k m b p l e q} (h:Rf.b8 E (Yn i)=(x,Yn j)) (f:x=2\/x=3\/x=4) (f:Rf.cB E 64 127 126 (Yn j)=(t,Yn k)) (a:stack=m++(if x=4 then [127]else [])) (g:E.d≠16)
   (n:Tree G {E with d:=E.d+1} (ag++[if x=3 then []else rs t]) (rs t) (decide (x=4)) [] Yj k b Yj p) (o:x=4->rs t=[]) (t2:Tree G E ag aL other (m++rs t) Yj p l e q):Tree G E ag aL other stack Yj i (⟨x,t.toNat,[],b,[],(rs t).length⟩::l) e q
 |ife {E ag aL other stack i j t k m b p c p2 l e q} (h:Rf.b8 E (Yn i)=(4,Yn j)) (f:Rf.cB E 64 127 126 (Yn j)=(t,Yn k)) (a:stack=m++[127]) (g:E.d≠16)
   (n:Tree G {E with d:=E.d+1} (ag++[rs t]) (rs t) Yk [] Yj k b Yk p) (t3:Tree G {E with d:=E.d+1} (ag++[rs t]) (rs t) Yj [] Yj p c Yj p2) (t2:Tree G E ag aL other (m++rs t) Yj p2 l e q):Tree G E ag aL other stack Yj i (⟨4,t.toNat,[],b,c,(rs t).length⟩::l) e q
def rH{E:Rf.PE}{c:List (List UInt8)}{b:Bool}{stack:List UInt8}{d:Bool}{l:List Nd}{e:Bool}(t:Tree A E c D b stack d k l e q):b=Yj->e=false:=by
 induction t with
 |fW h i a f=>
  grind
 |one h f j m n a g t ih=>exact ih
 |az h i j g m n o t2 f a=>exact a
 |ife h j g m n t3 t2 f i a=>exact a
end
namespace Rf
section
open Go.RowKit
def F6:(Tryz.prog.info? 25).map (λi=>(i.zero,i.size,i.bytes))=M (M (Q H 0 0),1,24):=Vf
def DM:∃i,Tryz.prog.info? 25=M i/\i.zero=M (Q H 0 0)/\i.size=1/\i.bytes=24:=info_parts F6
structure F7(w:Yw)(pb:Nat)(E:PE)(G:ez)(ag:List (List UInt8))(aL:List UInt8)(lv rv:Yx):Prop where
 env:ni w pb E G
 lab:fN w pb lv ag
 rp:∀l∈ag,l.length<=1000
 res:aq w rv aL
 ack:rF pb rv
 adM:aL.length<=1000
 d0:0<=E.d
 T6:E.d<=16
 dl:(ag.length:Int)=E.d+1
def F8(w:Yw)(B:Nat->Prop)(cells:List Yx)(k:Nat)(x:Nd):Prop:=
 cells[k*6]?=M (V Ys x.op.toNat)/\cells[k*6+1]?=M (V Yr x.n)/\cells[k*6+5]?=M (V O x.value)/\eS w (cells.getD (k*6+2) aV) x.ag/\(x.ag≠[]-> ∀b,(cells.getD (k*6+2) aV).ownBlock=M b->B b)
inductive bh (w:Yw) (B:Nat->Prop):Yx->List Nd->Prop
 |mk {v l cells} (row:aw w v 6 l.length cells) (own:∀b,v.ownBlock=M b->B b) (hc:∀k x,l[k]?=M x->F8 w B cells k x) (hb:∀k x,l[k]?=M x->bh w B (cells.getD (k*6+3) aV) x.body) (he:∀k x,l[k]?=M x->bh w B (cells.getD (k*6+4) aV) x.els):bh w B v l
section
variable{S B B':Nat->Prop}{w w':World}{v:Value}{l:List Nd}{cells:List Value}
theorem bh.nil:bh w B aV []:=.mk (cells:=[]) ⟨U,Yo ⟨U,U⟩⟩ (λb h=>by cases h) (λk x h=>by simp at h) (λk x h=>by simp at h) (λk x h=>by simp at h)
theorem DN{v:Yx}(h:eS w v []):eS w' v []:=by
 obtain⟨c,d|⟨a,o,b,e,f,i⟩⟩:=h
 .exact⟨c,Yo d⟩
 .exact⟨c,Yp ⟨a,o,b,e,f,λk x g=>by simp at g⟩⟩
theorem wX{v:Yx}{l:List Int}(h:eS w v l)(a:Kp S w w')(hS:l≠[]-> ∀b,v.ownBlock=M b-> ¬S b):eS w' v l:=by
 by_cases b:l=[]
 .grind[DN]
 .exact aw.kp h a (hS b)
def IL{v:Yx}{l:List Int}(h:eS w v l)(c:l≠[]):∀b,v.ownBlock=M b->b<w.heap.size:=by
 intro b e;obtain⟨x,f,rfl⟩:=Xw c;obtain⟨a,o,d,rfl,-,g⟩:=aw.get h (k:=0) U;grind[Value.ownBlock,World.cell?]
theorem F8.kp{x:Nd}(h:F8 w B cells k x)(d:Kp S w w')(hS:∀b,B b-> ¬S b)(e:∀b,B b->B' b):F8 w' B' cells k x:=
 ⟨h.1,h.2.1,h.2.2.1,wX h.2.2.2.1 d (λa b c=>hS b (h.2.2.2.2 a b c)),λa b c=>e b (h.2.2.2.2 a b c)⟩
theorem bh.kp(h:bh w B v l)(e:Kp S w w')(hS:∀b,B b-> ¬S b)(f:∀b,B b->B' b):bh w' B' v l:=by
 induction h with
 |mk row own g a i c d=>exact .mk (row.kp e (λb a=>hS b (own b a))) (λb a=>f b (own b a)) (λk x b=>(g k x b).kp e hS f) c d
def pd(w:Yw)(B:Nat->Prop)(cells:List Yx)(l:List Nd):Prop:= ∀k x,l[k]?=M x->F8 w B cells k x/\bh w B (cells.getD (k*6+3) aV) x.body/\bh w B (cells.getD (k*6+4) aV) x.els
theorem pd.kp(h:pd w B cells l)(a:Kp S w w')(hS:∀b,B b-> ¬S b)(c:∀b,B b->B' b):pd w' B' cells l:=λk x b=>⟨(h k x b).1.kp a hS c,(h k x b).2.1.kp a hS c,(h k x b).2.2.kp a hS c⟩
def pd.at(h:pd w B cells l)(row:aw w v 6 l.length cells)(own:∀b,v.ownBlock=M b->B b):bh w B v l:=.mk row own (λk x a=>(h k x a).1) (λk x a=>(h k x a).2.1) (λk x a=>(h k x a).2.2)
theorem pd.rI(h:pd w B cells l)(f:cells.length=l.length*6)(x:Nd){ev:Yx}(g:eS w u x.ag)(i:x.ag≠[]-> ∀b,u.ownBlock=M b->B b)(m:bh w B z x.body)(n:bh w B ev x.els):
  pd w B (cells++[V Ys x.op.toNat,V Yr x.n,u,z,ev,V O x.value]) (l++[x]):=by
 intro k y a;rcases VE k l.length with b|b
 .rw[VC b]at a;have e:∀j,j<6->(cells++[V Ys x.op.toNat,V Yr x.n,u,z,ev,V O x.value])[k*6+j]?=cells[k*6+j]? :=λj d=>VC Y
  have c:=e 0 Y;rw[VU]at c;have:=h k y a;grind[F8]
 .rw[VQ b]at a;have d:k-l.length=0:=by
   grind
  rw[d]at a;simp at a;subst a;have e:∀j,(cells++[V Ys x.op.toNat,V Yr x.n,u,z,ev,V O x.value])[k*6+j]?=[V Ys x.op.toNat,V Yr x.n,u,z,ev,V O x.value][j]? :=λj=>by
   rw[VQ Y];congr 1;omega
  have c:=e 0;simp_all[F8]
end
def jA(w w':Yw):Nat->Prop:=λb=>w.heap.size<=b/\b<w'.heap.size
def nj(w w':Yw)(G:ez)(E:PE)(ag:List (List UInt8))(aL:List UInt8)(other:Bool)(σ:PS)(v:Yx)(T:Bool×PS):Prop:= ∀i q,σ= Yn i->T.2= Yn q-> ∃l,bh w' (jA w w') v l/\Tree G E ag aL other [] Yj i l T.1 q
theorem nj.bad{w':Yw}{a:List (List UInt8)}{b:Bool}{T:Bool×PS}(h:bn T.2=Yk):nj X w' A e a D b f u T:=λi q _ c=>by rw[c]at h;cases h
def wY(n:Nat):Prop:= ∀(w:Yw) (pb:Nat) (E:PE) (G:ez) (ag:List (List UInt8)) (aL:List UInt8) (lv rv:Yx) (other:Bool) (σ:PS) (f:Nat),
 F7 w pb E G ag aL lv rv->dR w pb E σ->E.left σ<=n->E.left σ<f->
 Yy prog 161 #[ptr pb,rv,lv,Yt other] w λr w'=> ∃ad len cap,r= Yq (Yu #[Q ad len cap,Yt (az G f E ag aL other [] Yj σ).1])/\dR w' pb E (az G f E ag aL other [] Yj σ).2/\Kp (one pb) w w'/\nj w w' G E ag aL other σ (Q ad len cap) (az G f E ag aL other [] Yj σ)
abbrev PE.deeper(E:PE)(d:Int):PE:={E with d:=d}
def dR.uw{w':Yw}{E:PE}(h:dR X t E f)(d:Int)(k:Kp (one t) X w')(c:∀i e p,X.heap[t]?=M (E.dT i e p)->w'.heap[t]?=M ((E.deeper d).dT i e p)):dR w' t (E.deeper d) f:=
 ⟨λi hi=>⟨(h.ok i hi).1,c _ _ _ (h.ok i hi).2⟩,λe a g=>by
  obtain⟨l,i,hi,j⟩:=h.bad e a g;grind,h.bytes.kp k (λb c e=>by have:=h.low b c;grind[one]),h.low,h.len,h.en⟩
def ni.uw(h:ni X k e A)(d:Int):ni X k (e.deeper d) A:=⟨h.jG,h.Rh,h.mod,h.Ut,h.B9,h.sA,h.F4⟩
def zO(E:PE)(d:Int)(a:PS):(E.deeper d).left a=E.left a:=Vg
theorem fN.rI{a:List (List UInt8)}(e:∀(k:Nat) (l:List UInt8),a[k]?=M l-> ∃x,F[k]?=M x/\aq X x l/\rF t x)(f:F.length=a.length)
  (d:X.ownsRow j T 1 u (a.length+1) (F++[z]))(h:t<j)(i:aq X z D)(g:rF t z):fN X t u (a++[D]):=by
 refine⟨λb c=>cj (aK d b c),F++[z],by simpa using aw.own d,λk l b=>?_⟩;grind
theorem lI{a:List (List UInt8)}{b:Bool}{stack:List UInt8}{c:Bool}(h:bn x=Yk):az A k e a D b stack c x=(Yj,x):=by
 cases k with
 |zero=>rfl
 |succ k=>simp_all[az]
theorem l6.en{E:PE}{a b:PS}(h:l6 e k a b)(j:e.en=E.en):l6 E k a b:=by
 rcases h with h|⟨i,c,d,f,g,l⟩
 .exact Yo h
 .exact Yp ⟨i,c,d,f,g,Y⟩
def zP{B:PE->List (List UInt8)->List UInt8->Bool->PS->Bool×PS}{b:List (List UInt8)}    
  (g:∀c l r o a,c.en=e.en->(∀i,a= Yn i->i<=e.en)->l6 e 0 a (B c l r o a).2)(hS:∀c l r o a,bn a=Yk->bn (B c l r o a).2=Yk)(h:∀i,f= Yn i->i<=e.en):l6 e 0 f (et B e b k t y D f).2:=by
 unfold et;split
 .grind[iK]
 .simp only;generalize(if t=64 then ([]:List UInt8)else [UInt8.ofNat t])=a;generalize b++[if k=3 then []else a]=c;have i:=g {e with d:=e.d+1} c a (decide (k=4)) f U h;generalize B {e with d:=e.d+1} c a _ f=j at *;cases j.1
  .simp only[Vq,VL];grind[iK]
  .simp only[VK];have l:=l6.trans i (g {e with d:=e.d+1} c a Yj j.2 U (uv i)) (hS _ _ _ _ _);omega
def IM{G:ez}(f:Nat):∀(E:PE) (c:List (List UInt8)) (e:List UInt8) (g:Bool) (b:List UInt8) (k:Bool) (a:PS),(∀i,a= Yn i->i<=E.en)->l6 E 0 a (az G f E c e g b k a).2:=by
 induction f with
 |zero=>intro E c e g b k a h;exact l6.refl h
 |succ f ih=>
  intro E c e g b k a h;rw[az];split
  .rename_i m;exact Yo m
  simp only;split
  .rename_i m;exact Yo m
  rename_i t;have p:l6 E 1 a (b8 E a).2:=o9;split
  .split
   .grind[iK]
   .exact p.mono Y
  split
  .grind[iK]
  split
  .grind[iK]
  have u:l6 E 0 (b8 E a).2 (aX E G c b (b8 E a).1.toNat (b8 E a).2).2:=qo (uv p);have v:l6 E 0 a (aX E G c b (b8 E a).1.toNat (b8 E a).2).2:=(p.trans u (λm=>Ve)).mono Y;generalize aX E G c b (b8 E a).1.toNat (b8 E a).2=y at *;have q:l6 E 0 a (if y.1.ok=Yj\/(gp b y.1.take).2=Yj then cA 3 a.place y.2 else y.2):=by
   grind[iK]
  generalize(if y.1.ok=Yj\/(gp b y.1.take).2=Yj then cA 3 a.place y.2 else y.2)=d at *;split
  .omega
  rename_i w;have s:l6 E 0 d (if (b8 E a).1=2\/(b8 E a).1=3\/(b8 E a).1=4 then et (λn l o r j=>az G f n l o r [] Yj j) E c (b8 E a).1.toNat y.1.n a.place ((gp b y.1.take).1++y.1.put) d else ((gp b y.1.take).1++y.1.put,d)).2:=by
   split
   .exact zP (λn l r o j x z=>(ih n l r o [] Yj j (λi hi=>Ve)).en x) (λn l r o j m=>by grind[lI]) (uv q)
   grind[l6.refl,uv]
  generalize(if (b8 E a).1=2\/(b8 E a).1=3\/(b8 E a).1=4 then et _ E c (b8 E a).1.toNat y.1.n a.place _ d else ((gp b y.1.take).1++y.1.put,d))=z at *;have i:=(q.trans s (λm=>Ve)).mono (show 0<=0+0 by omega);exact(i.trans (ih E c e g z.1 _ z.2 (uv s)) (λm=>by grind[lI])).mono Y
def xB(h:l6 e k f x):e.left x<=e.left f:=by
 cases a:bn x with
 |true=>grind[Np]
 |false=>have:=h.left a;omega
end
end Rf
section
open Go.RowKit
open Rf (ptr)
def aQ(l:List Int):List Value:=l.map λn=> V O n
theorem jq(l:List Int):(aQ l).length=l.length:=by simp[aQ]
def Rp(w:Yw)(sb:Nat)(st:List (Int×Int)):Prop:= ∃kv vv,w.heap[sb]?=M (Yl #[kv,vv] 96)/\aw w kv 1 st.length (aQ (st.map (·.1)))/\aw w vv 1 st.length (aQ (st.map (·.2)))
def dt(st:List (Int×Int))(k:Int):Nat:=(st.takeWhile λp=>decide (p.1<k)).length
def kP(st:List (Int×Int))(k:Int):Bool:=match st[dt st k]? with
 |some p=>p.1==k
 |none=>Yj
def IP(a:List (Int×Int))(k:Int):dt a k<=a.length:=by
 unfold dt;induction a with
 |nil=>simp
 |cons p l ih=>
  grind[List.takeWhile_cons]
def Rq{a:List (Int×Int)}(b:t<=dt a y){p:Int×Int}(c:a[t]?=M p):p.1<y↔t<dt a y:=by
 unfold dt at b⊢;induction a generalizing t with
 |nil=>simp at c
 |cons q l ih=>
  rw[X1]at b⊢;grind
def DQ(h:aw X u 1 t (aQ L)){x:Int}(c:L[k]?=M x):∃a o b,u= Q (M ⟨a,o,H⟩) t b/\t<=b/\X.cell? ⟨a,o+k,H⟩=M (V O x):=aw.get h (by grind[aQ])
def IQ{c:List (Int×Int)}(h:Rp X t c)(k:Int)(B:c.length<=1000):
  df 93 #[ptr t,V O k] X (Yu #[V O (dt c k),Yt (kP c k)]) λa=>Kp no X a:=by
 obtain⟨C,D,m,j,-⟩:=h;obtain⟨q,r,rfl,s⟩:=j.aJ;obtain⟨E,F⟩:=ae m;have u:∀n p,c[n]?=M p-> ∃a o,q=M ⟨a,o,H⟩/\X.cell? ⟨a,o+n,H⟩=M (V O p.1):=λn p f=>by
  obtain⟨a,o,b,e,-,d⟩:=DQ j (k:=n) (x:=p.1) (by simp[f]);cases e;exact⟨a,o,U,d⟩
 have w:=IP c k;have l:=Z u;go_enter func93,ntmps93;go_wp2_with fail;go_loopw [6] (λb wr=> ∃n:Nat,n<=dt c k/\b= V O n/\X=wr) (λb _=>dt c k - (intOf b).toNat);case atStart=>exact⟨0,VB _,U,U⟩
 case round=>
  obtain⟨n,y,rfl,rfl⟩:=hrel;cases f:c[n]? with
  |none=>
   have g:c.length<=n:=by simpa using f
   have b:n=dt c k:=Y
   have d:kP c k=false:=by unfold kP;rw[<-b,f]
   clear f;change Hid _ at d b;go_wp2_with fail;go_quiet(fail);go_wp2;refine bodyPost_ret (v:= Yu #[V O n,Yt Yj]) (by simp[results,results93,go_sem]) U ?_;exact⟨by rw[d.out,<-b.out],(Kp.refl _ _).drewN _⟩
  |some p=>
   have g:=(VA.1 f).1;obtain⟨a,o,rfl,z⟩:=l n p f;have e:=Rq y f;by_cases i:p.1<k
   .have A:=e.1 i;go_wp2;exact⟨⟨n+1,Y,U,trivial⟩,by simp[intOf];omega⟩
   .have b:n=dt c k:=Y
    have d:kP c k=(p.1==k):=by unfold kP;rw[<-b,f]
    clear f e l;change Hid _ at d b;go_wp2_with fail;go_quiet(fail);go_wp2;refine bodyPost_ret (v:= Yu #[V O n,Yt (p.1==k)]) (by simp[results,results93,go_sem]) U ?_;exact⟨by rw[d.out,<-b.out],(Kp.refl _ _).drewN _⟩
theorem Rp.kp{w':Yw}{a:List (Int×Int)}(h:Rp X t a)(k:Kp no X w'):Rp w' t a:=by
 obtain⟨b,c,d,e,f⟩:=h;exact⟨b,c,k.az d id,e.kp k bW,f.kp k bW⟩
def lJ(st:List (Int×Int))(k:Int):Option Int:=if kP st k then M (st.getD (dt st k) (0,0)).2 else H
def IU{a:List (Int×Int)}(h:kP a y=Yk):a[dt a y]?=M (y,(a.getD (dt a y) (0,0)).2):=by
 grind[kP]
def Nr{b:List (Int×Int)}(h:Rp X t b)(k:Int)(j:b.length<=1000):
  df 63 #[ptr t,V O k] X (Yu #[V O ((lJ b k).getD 0),Yt (lJ b k).isSome]) λa=>Kp no X a:=by
 have f:=Z (IQ h k j);cases c:kP b k with
 |false=>
  have g:lJ b k=none:=by unfold lJ;rw[c];rfl
  rw[g];rw[c]at f;go_enter func63,ntmps63;go_wp2_with fail;refine f.bw ?_;rintro l d;go_wp2;refine bodyPost_ret (v:= Yu #[V O 0,Yt Yj]) (by simp[results,results63,go_sem]) U ?_;exact⟨U,d⟩
 |true=>
  have e:=IU c;have m:=(VA.1 e).1;have g:lJ b k=M (b.getD (dt b k) (0,0)).2:=by unfold lJ;rw[c];rfl
  rw[g];rw[c]at f;generalize(b.getD (dt b k) (0,0)).2=u at *;obtain⟨y,z,p,-,q⟩:=h;obtain⟨a,o,r,rfl,s,i⟩:=DQ q (k:=dt b k) (x:=u) (by simp[e]);generalize dt b k=n at *;go_enter func63,ntmps63;go_wp2_with fail;refine f.bw ?_;rintro l d;obtain⟨A,B⟩:=ae (d.az p id);have w:=d.cell i id;go_wp2;refine bodyPost_ret (v:= Yu #[V O u,Yt Yk]) (by simp[results,results63,go_sem]) U ?_;exact⟨U,d⟩
def xK:(Tryz.prog.info? 2).map (λi=>(i.zero,i.size,i.bytes))=M (M (V O 0),1,8):=Vf
def nY(l:List Int):∀u∈aQ l,u.oneCell'=true:=by
 intro u a;obtain⟨c,-,rfl⟩:=Xc.1 a;rfl
def ic    :X.ownsRow k T j (Q H 0 0) 0 []:=⟨Vc,Yo ⟨U,U⟩⟩
def Kj{a:List (Int×Int)}(h:Rp X t a)(hs:a.length<=1000):
  Yy prog 121 #[ptr t] X λr i=> ∃kv vv,r= Yq (.agg #[kv,vv])/\i.ownsRow X.heap.size 2 1 kv a.length (aQ (a.map (·.1)))/\i.ownsRow X.heap.size 2 1 vv a.length (aQ (a.map (·.2)))/\(∀b,kv.ownBlock=M b->vv.ownBlock≠M b)/\Kp no X i:=by
 obtain⟨kv,vv,c,hk,hv⟩:=h;obtain⟨i0,I,J,L,N⟩:=info_parts xK;have h7:=au c;have HB:=Z c;obtain⟨ad,o,rfl,-⟩:=hk.aJ;obtain⟨p,r,rfl,-⟩:=hv.aJ;clear c;go_enter func121,ntmps121;go_wp2_with fail;obtain⟨G,l⟩:=bL ((X.alloc (Yl #[Q H 0 0,Q H 0 0] 96)).alloc (Yl #[Q H 0 0,Q H 0 0] 96));have P:G.heap.size=X.heap.size+2:=by rw[l];simp
 have k1:Kp no X G:=by rw[l];exact((Kp.refl _ _).alloc _).alloc _
 have s:G.heap[X.heap.size+1]?=M (Yl #[Q H 0 0,Q H 0 0] 96):=by
  rw[l];have:=ai (X.alloc (Yl #[Q H 0 0,Q H 0 0] 96)) (Yl #[Q H 0 0,Q H 0 0] 96);simpa using this
 have R:G.heap[X.heap.size]?=M (Yl #[Q H 0 0,Q H 0 0] 96):=by rw[l];exact ah (ai _ _)
 rw[<-l];have A:∀W,Kp no G W->(∀q,W.cell? ⟨t,q,H⟩=#[Q ad a.length o,Q p a.length r][q]?)/\(∀q,W.cell? ⟨X.heap.size+1,q,H⟩=#[Q H 0 0,Q H 0 0][q]?)/\(∀q,W.frozen? ⟨X.heap.size+1,q,H⟩=Yj):=λW k=>⟨(ae (k.az (k1.az HB id) id)).1,(ae (k.az s id)).1,(ae (k.az s id)).2⟩
 clear l;refine rj 8 9 (λi=>(∀q,i.cell? ⟨t,q,H⟩=#[Q ad a.length o,Q p a.length r][q]?)/\(∀q,i.cell? ⟨X.heap.size+1,q,H⟩=#[Q H 0 0,Q H 0 0][q]?)/\(∀q,i.frozen? ⟨X.heap.size+1,q,H⟩=Yj)) ?hS λhS=>?_
 case hS=>exact A _ fL
 refine tj 0 ?_;iterate 5 refine tn ?_
 refine oj 6 λK m=>?_
 refine bJ _ Vg _ _ _ Vg X.heap.size 2 i0 _ 1 8 underlying70 I J L N U Y _ 0 [] Vg ic _ a.length _ Vg (hk.kp (k1.trans fL) bW) (nY _) (by simp only[maxLen];omega) Y Vd ?_;intro h8 w5 u w S;rw[Vv,V1]at u;refine m _ _ (A _ (((Kp.refl _ _).drew).bS w (λk e=>by cases e))) (λhS=>?_);clear m K;obtain⟨d,f,rfl⟩:=aA u;refine tj 7 ?_;refine ej 8 λK m=>?_
 go_simp;refine m _ _ ?_;clear m K;refine dj ?_;have T:Kp no X w5:=k1.trans (((Kp.refl _ _).drew).bS w (λk e=>by cases e));have n:Kp no G w5:=((Kp.refl _ _).drew).bS w (λk e=>by cases e);obtain⟨x,g⟩:=bL (w5.setCell ⟨X.heap.size+1,0,H⟩ (Q d a.length f));have k6:Kp no X x:=by rw[g];exact T.cq Y _ _
 have y:x.heap[X.heap.size+1]?=M (Yl #[Q d a.length f,Q H 0 0] 96):=by rw[g];exact heap_setCell (n.az s id) _
 have h0:x.heap[X.heap.size]?=M (Yl #[Q H 0 0,Q H 0 0] 96):=by rw[g];exact aB Y _ (n.az R id)
 have z:∀b,(Value.slice d a.length f).ownBlock=M b->b=X.heap.size+2:=λb c=>by
  rcases S with e|e
  .rw[e]at c;cases c
  .rw[e]at c;cases c;simp[P]
 have B:x.ownsRow X.heap.size 2 1 (Q d a.length f) a.length (aQ (a.map (·.1))):=by rw[g];exact((Kp.refl (one (X.heap.size+1)) w5).bK _ _).own u (λb c (e:b=_)=>cj (z b c))
 have h9:X.heap.size+2<=x.heap.size:=by rw[g];have:=n.size;simp[World.setCell];omega
 have h3:∀b,(Value.slice d a.length f).ownBlock=M b->b<x.heap.size:=λb c=>(B.lt b c).2
 rw[<-g];have h4:=k6.az HB id;have C:∀W,Kp no x W->(∀q,W.cell? ⟨t,q,H⟩=#[Q ad a.length o,Q p a.length r][q]?)/\(∀q,W.cell? ⟨X.heap.size+1,q,H⟩=#[Q d a.length f,Q H 0 0][q]?)/\(∀q,W.frozen? ⟨X.heap.size+1,q,H⟩=Yj):=λW k=>⟨(ae (k.az h4 id)).1,(ae (k.az y id)).1,(ae (k.az y id)).2⟩
 clear g u w S T n A k1 s R hS P hk;go_wp2_with fail;refine rj 8 9 (λi=>(∀q,i.cell? ⟨t,q,H⟩=#[Q ad a.length o,Q p a.length r][q]?)/\(∀q,i.cell? ⟨X.heap.size+1,q,H⟩=#[Q d a.length f,Q H 0 0][q]?)/\(∀q,i.frozen? ⟨X.heap.size+1,q,H⟩=Yj)) ?hS λhS=>?_
 case hS=>exact C _ fL
 refine tj 0 ?_;iterate 5 refine tn ?_
 refine oj 6 λK m=>?_
 refine bJ _ Vg _ _ _ Vg X.heap.size 2 i0 _ 1 8 underlying70 I J L N U Y _ 0 [] Vg ic _ a.length _ Vg (hv.kp (k6.trans fL) bW) (nY _) (by simp only[maxLen];omega) Y Vd ?_;intro k0 w7 q D W;rw[Vv,V1]at q;refine m _ _ (C _ (((Kp.refl _ _).drew).bS D (λk e=>by cases e))) (λhS=>?_);clear m K;obtain⟨i,j,rfl⟩:=aA q;refine tj 7 ?_;refine ej 8 λK m=>?_
 go_simp;refine m _ _ ?_;clear m K;refine dj ?_;have n:Kp no x w7:=((Kp.refl _ _).drew).bS D (λk e=>by cases e);have T:Kp no X w7:=k6.trans n;obtain⟨m,k⟩:=bL (w7.setCell ⟨X.heap.size+1,1,H⟩ (Q i a.length j));have k8:Kp no X m:=by rw[k];exact T.cq Y _ _
 have K:m.heap[X.heap.size+1]?=M (Yl #[Q d a.length f,Q i a.length j] 96):=by rw[k];exact heap_setCell (n.az y id) _
 have h1:m.heap[X.heap.size]?=M (Yl #[Q H 0 0,Q H 0 0] 96):=by rw[k];exact aB Y _ (n.az h0 id)
 have E:∀b,(Value.slice i a.length j).ownBlock=M b->b=x.heap.size:=λb c=>by
  rcases W with e|e
  .rw[e]at c;cases c
  .rw[e]at c;cases c;rfl
 have F:Kp (one (X.heap.size+1)) w7 m:=by rw[k];exact(Kp.refl _ _).bK _ _
 have h5:=F.own q (λb c (e:b=_)=>cj (E b c));have h2:=F.own (n.own B bW) (λb c (e:b=_)=>cj (z b c));rw[<-k];obtain⟨k2,k3⟩:=ae K;obtain⟨k4,k5⟩:=ae h1;clear hS q D W T n F k C k6 y h0 B K hv;go_wp2;have k7:=(h2).2;have k9:Kp (one X.heap.size) m ((m.setCell ⟨X.heap.size,0,H⟩ (Q d a.length f)).setCell ⟨X.heap.size,1,H⟩ (Q i a.length j)):=((Kp.refl _ _).bK _ _).bK _ _;have w0:((m.setCell ⟨X.heap.size,0,H⟩ (Q d a.length f)).setCell ⟨X.heap.size,1,H⟩ (Q i a.length j)).heap[X.heap.size]?=M (Yl #[Q d a.length f,Q i a.length j] 96):=heap_setCell (heap_setCell h1 _) _;obtain⟨h6,w1⟩:=ae w0;refine bodyPost_ret (v:=.agg #[Q d a.length f,Q i a.length j]) (by simp[results,results121,go_sem,h6]) U ?_;refine⟨_,_,U,k9.own h2 (λb c (e:b=_)=>cj (z b c)),k9.own h5 (λb c (e:b=_)=>cj (E b c)),λb e w2=>by have:=z b e;have:=E b w2;have:=h3 b e;omega,?_⟩;exact(k8.cq cQ _ _).cq cQ _ _
end
section
def wu:laidOutB prog=true:=Vf
def zt:mapsRowed prog=true:=Vf
end
namespace Rf
section
open Go.RowKit
abbrev IV(op n:Nat)(lab body els:Yx)(val:Int):Obj:= Yl #[V Ys op,V Yr n,lab,body,els,V O val] 309
structure T7(w0 w:Yw)(pb:Nat)(E:PE)(G:ez)(ag:List (List UInt8))(lv:Yx)(stack:List UInt8)(sv:Yx)(xb base op:Nat)(t:UInt8)(la:Option Addr)(ln lc:Nat)(val:Int):Prop where
 env:ni w0 pb E G
 lab:fN w0 pb lv ag
 k0:Kp (one pb) w0 w
 aaY:w0.heap.size<=xb
 pbL:pb<w0.heap.size
 rp:∀l∈ag,l.length<=1000
 d0:0<=E.d
 T6:E.d<=16
 dl:(ag.length:Int)=E.d+1
 box:w.heap[xb]?=M (IV op t.toNat (Q la ln lc) aV aV val)
 Uw:xb≠pb
 own:w.ownsRow base 5 1 sv stack.length (cw stack)
 acm:pb<base
 acn:sv.ownBlock≠M xb
 aco:base<=w.heap.size
 Rk:stack.length<=10000000
 op3:op=2\/op=3\/op=4
def InB(w w':Yw)(G:ez)(E:PE)(ag:List (List UInt8))(op:Nat)(t:UInt8)(σ R:PS)(bv ev:Yx)(val:Int):Prop:= ∀i q,σ= Yn i->R= Yn q-> ∃b c,bh w' (jA w w') bv b/\bh w' (jA w w') ev c/\val=((rs t).length:Nat)/\E.d≠16/\
 ((Tree G (E.deeper (E.d+1)) (ag++[if op=3 then []else rs t]) (rs t) (decide (op=4)) [] Yj i b Yj q/\(op=4->rs t=[])/\c=[])\/
  (op=4/\ ∃p,Tree G (E.deeper (E.d+1)) (ag++[rs t]) (rs t) Yk [] Yj i b Yk p/\Tree G (E.deeper (E.d+1)) (ag++[rs t]) (rs t) Yj [] Yj p c Yj q))
theorem InB.bad{w':Yw}{a:List (List UInt8)}(h:bn x=Yk):InB X w' A e a k g f x u z y:=λi q _ b=>by rw[b]at h;cases h
def inS(pb xb:Nat)(sv:Yx):Nat->Prop:=λk=>k=pb\/k=xb\/sv.ownBlock=M k
def zQ{P:Prop}(h:P:=by
 rw[Va ht,Va (by intro h;apply ht;rw[<-Vp];exact h)];simp):P:=h
def Ns(IH:wY j){w:Yw}{E:PE}{G:ez}{t:List (List UInt8)}{sv:Yx}{B:Nat}{la:Option Addr}{ln lc:Nat}{σ:PS}{f:Nat}
  (h:T7 X w N E G t z D sv d m B g la ln lc y)(K:dR w N E σ)(k3:E.left σ<=j)(hf:E.left σ<f)(L:Int):
  Yy prog 194 #[ptr N,ptr d,V O L,sv,z] w λr e=> ∃v,r= Yq v/\
   e.ownsRow m 5 1 v (et (λb c l n a=>az G f b c l n [] Yj a) E t B g.toNat L D σ).1.length (cw (et (λb c l n a=>az G f b c l n [] Yj a) E t B g.toNat L D σ).1)/\
   dR e N E (et (λb c l n a=>az G f b c l n [] Yj a) E t B g.toNat L D σ).2/\Kp (inS N d sv) w e/\
   ∃ba bl bc ea el ec i,e.heap[d]?=M (IV B g.toNat (Q la ln lc) (Q ba bl bc) (Q ea el ec) i)/\InB w e G E t B g σ (et (λb c l n a=>az G f b c l n [] Yj a) E t B g.toNat L D σ).2 (Q ba bl bc) (Q ea el ec) i:=by
 by_cases hd:E.d=16
 .have C:et (λb c l n a=>az G f b c l n [] Yj a) E t B g.toNat L D σ=([],cA 3 L σ):=by rw[et,Vi hd]
  rw[C];obtain⟨i,K3,pl,hi,A,-,-⟩:=K.dT;obtain⟨hc,s6⟩:=ae A;rw[hd]at hc;obtain⟨s7,s8⟩:=ae h.box;have k4:=K.lt;have w0:=au h.box;obtain⟨w2,w3,rfl⟩:=aA h.own;clear C A hd k3 hf;change Hid _ at h K;by_cases ht:g=64
  .have S:((g.toNat:Int) !=64)=false:=by rw[ht];rfl
   have q:=Z ht;clear ht;go_enter func194,ntmps194;go_wp2_with fail;refine(dJ K _ _ Vb).bw ?_;rintro w1⟨I,k1⟩;change Hid _ at I;go_wp2;go_ret;exact⟨aV,U,World.ownsRow_nil _ _ _ _,I,k1.mono (λk J e=> Yo e),_,_,_,_,_,_,_,k1.az h.box (λe=>h.Uw e),InB.bad (gu _ _)⟩
  .have S:((g.toNat:Int) !=64)=true:=by
    rw[show(64)=((64:UInt8).toNat:Int)from U,mY];simpa using ht
   have q:=Z ht;clear ht;have s:=λ(x:Obj) o=>dx w0 x o
   have u:=λ(x:Obj) o=>dx k4 x o
   go_enter func194,ntmps194;go_wp2_with fail;refine(dJ (K.no ((Kp.refl no w).alloc _)) _ _ Vb).bw ?_;rintro w1⟨I,k1⟩;change Hid _ at I;go_wp2;go_ret;have p:Kp _ w w1:=((Kp.refl _ w).alloc _).trans k1;exact⟨aV,U,World.ownsRow_nil _ _ _ _,I,p.mono (λk J e=> Yo e),_,_,_,_,_,_,_,p.az h.box (λe=>h.Uw e),InB.bad (gu _ _)⟩
 .obtain⟨s,h5⟩:∃s:List UInt8,s=if g=64 then []else [g]:=⟨_,U⟩
  have y5:s.length<=1:=by rw[h5];split <;>simp
  have C:et (λb c l n a=>az G f b c l n [] Yj a) E t B g.toNat L D σ=(D++s,if (az G f (E.deeper (E.d+1)) (t++[if B=3 then []else s]) s (decide (B=4)) [] Yj σ).1 then (az G f (E.deeper (E.d+1)) (t++[if B=3 then []else s]) s Yj [] Yj (az G f (E.deeper (E.d+1)) (t++[if B=3 then []else s]) s (decide (B=4)) [] Yj σ).2).2 else if B=4/\s≠[]then cA 3 ((az G f (E.deeper (E.d+1)) (t++[if B=3 then []else s]) s (decide (B=4)) [] Yj σ).2.place-1) (az G f (E.deeper (E.d+1)) (t++[if B=3 then []else s]) s (decide (B=4)) [] Yj σ).2 else (az G f (E.deeper (E.d+1)) (t++[if B=3 then []else s]) s (decide (B=4)) [] Yj σ).2):=by
   have e:(if g.toNat=64 then ([]:List UInt8)else [UInt8.ofNat g.toNat])=s:=by
    rw[h5];by_cases ht:g=64
    .subst ht;rfl
    .exact zQ
   rw[et,Va hd];simp only[e]
  generalize et _ E t B g.toNat L D σ=R at *;obtain⟨F,h0⟩:=bL (t++[if B=3 then []else s]:List _);rw[<-h0]at C;have n:=Z h;have HM:=Z C;obtain⟨i,K3,pl,hi,A,-,-⟩:=K.dT;have s9:=Z A;obtain⟨hc,s6⟩:=ae A;obtain⟨s7,s8⟩:=ae h.box;have k4:=K.lt;have w0:=au h.box;have y6:=h.d0;have y7:=h.T6;have x0:(E.d==16)=false:=by simpa using hd
  obtain⟨w2,w3,rfl⟩:=aA h.own;obtain⟨h8,h6,w4⟩:=h.lab.row;obtain⟨y8,y9,rfl,z0⟩:=h6.aJ;obtain⟨i1,K4,K5,K6,K7⟩:=mZ;obtain⟨i2,w5,w6,w7,w8⟩:=DM;clear C h A hd;change Hid _ at w4;replace h6:=Z h6;replace IH:=Z IH;replace hf:=Z hf;replace k3:=Z k3;change Hid _ at K h5 h0;go_enter func194,ntmps194;go_upto_if 21 with fail
  go_cut [11] (λb wx=> ∃c a,b= Q c s.length a/\aq wx (Q c s.length a) s/\(∀b,(Value.slice c s.length a).ownBlock=M b->w.heap.size<=b)/\Kp no w wx)
  case first =>
   by_cases ht:g=64
   .have S:((g.toNat:Int) !=64)=false:=by rw[ht];rfl
    have hr:s=[]:=by rw[h5.out,Vi ht]
    clear ht;change Hid _ at hr;go_wp2_with fail;go_meet;rw[hr.out];exact⟨H,0,U,aq.nil _,(λb A=>by cases A),iR⟩
   .have S:((g.toNat:Int) !=64)=true:=by
     rw[show(64)=((64:UInt8).toNat:Int)from U,mY];simpa using ht
    have hr:s=[g]:=by rw[h5.out,Va ht]
    have l:=g.toNat_lt;clear ht;change Hid _ at hr;go_wp2_with fail;go_meet;rw[hr.out];exact⟨_,1,U,aq.az (ai _ _),(λb A=>by simp only[Value.ownBlock,Vu]at A;omega),(Kp.refl no w).alloc _⟩
  case rest=>
  rename Yw=>wA
  obtain⟨k5,k6,rfl,w9,e0,kc⟩:=hcut;obtain⟨K8,K9⟩:=ae (kc.az s9 id);obtain⟨W0,W1⟩:=ae (kc.az n.box id);have x1:N<wA.heap.size:=Vm k4 kc.size;have h1:=n.Uw;have z1:N≠d:=λe=>h1 e.symm
  have z2:t.length<=17:=cj n.dl;clear hc s6 s7 s8;change Hid _ at e0;replace w9:=Z w9;go_wp2_with(at_builtin;refine b7 _ U _ _ 43 U wA.heap.size 25 i2 _ 1 24 underlying43 w5 w6 w7 w8 U Vb _ _ _ U (World.ownsRow_nil _ _ _ _) _ t.length h8 U ?c2 ?c1 ?c3 ?c4 ?c5 ?_);case c2=>exact h6.kp (n.k0.trans ((kc.any).bK _ _)) (λb A e=>n.lab.JQ b A e)
  case c1=>
   intro u p;obtain⟨k,J⟩:=List.getElem?_of_mem p;have l:k<t.length:=by
    have I:=h6.1;rcases VE k h8.length with h4|h4
    .omega
    .rw[Xm h4]at J;cases J
   obtain⟨x,q,T,-⟩:=w4 k _ (Vj l);rw[q]at J;cases J;obtain⟨P,W,rfl,_⟩:=T.aJ;rfl
  case c3=>unfold maxLen;omega
  case c4=>omega
  case c5=>simp
  intro v1 w1 h2 x2;obtain⟨z3,z4,rfl⟩:=aA h2;have k1:Kp no _ w1:=(Kp.refl no _).bS x2 (λk J=>by cases J);obtain⟨W2,W3⟩:=ae (k1.az (aB h1 _ (kc.az n.box id)) id);have z5:=Z (k1.az (heap_setCell (kc.az s9 id) _) id);have z6:wA.heap.size<=w1.heap.size:=by have:=k1.size;simpa using this
  clear x2 K8 K9 W0 W1;change Hid _ at k1;replace h2:=Z h2;have W4:=Z (((kc.any).bK 7 _).then k1);have e3:h8.length=t.length:=cj h6.1;change Hid _ at e3;go_upto_if 50 with fail
  go_cut [12] (λl wx=> ∃c a k7,l= Q c (t.length+1) a/\wx.ownsRow wA.heap.size 25 1 (Q c (t.length+1) a) (t.length+1) (h8++[k7])/\((k7=aV/\F=t++[[]])\/(k7= Q k5 s.length k6/\F=t++[s]))/\Kp (λk=>wA.heap.size<=k) w1 wx)
  case first =>
   by_cases p:B=3
   .have S:((B:Int)==3)=true:=Vd
    have c:F=t++[[]]:=by rw[h0.out,Vi p]
    clear p;change Hid _ at c;go_wp2_with(at_builtin;refine b7 _ U _ _ 43 U wA.heap.size 25 i2 _ 1 24 underlying43 w5 w6 w7 w8 U Vb _ _ _ U (h2.alloc _) _ 1 [Q H 0 0] U (aw.new _ _ _) (eP U) ?c3 ?c4 ?c5 ?_);case c3=>unfold maxLen;omega
    case c4=>omega
    case c5=>simp;omega
    intro v2 h3 a l;have u:Kp (λk=>wA.heap.size<=k) w1 h3:=((Kp.refl _ w1).alloc _).bS l (λk J=> Yo (aK h2 k J));obtain⟨P,W,rfl⟩:=aA a;clear l;replace a:=Z a;go_wp2_with fail;go_meet;exact⟨P,W,aV,Vc,by simpa using a.out,Yo ⟨U,c⟩,u⟩
   .have S:((B:Int)==3)=false:=Vd
    have c:F=t++[s]:=by rw[h0.out,Va p]
    clear p;change Hid _ at c;go_wp2_with(at_builtin;refine b7 _ U _ _ 43 U wA.heap.size 25 i2 _ 1 24 underlying43 w5 w6 w7 w8 U Vb _ _ _ U (h2.alloc _) _ 1 [Q k5 s.length k6] U (aw.new _ _ _) (eP U) ?c3 ?c4 ?c5 ?_);case c3=>unfold maxLen;omega
    case c4=>omega
    case c5=>simp;omega
    intro v2 h3 a l;have u:Kp (λk=>wA.heap.size<=k) w1 h3:=((Kp.refl _ w1).alloc _).bS l (λk J=> Yo (aK h2 k J));obtain⟨P,W,rfl⟩:=aA a;clear l;replace a:=Z a;go_wp2_with fail;go_meet;exact⟨P,W,Q k5 s.length k6,Vc,by simpa using a.out,Yp ⟨U,c⟩,u⟩
  case rest=>
  rename Yw=>wB
  obtain⟨x3,x4,k7,rfl,x5,x6,kB⟩:=hcut;have x7:=Z x5;have e4:=Z x6;have z7:=kc.size;have z8:d<wA.heap.size:=Y
  have h7:=Z (W4.comp kB bW (λk J h=>Y));have x8:=Z (kB.az (k1.az (aB h1 _ (kc.az n.box id)) id) Y);have x9:=Z (K.uw (E.d+1) h7 (λi' e' p' e5=>kB.az (k1.az (heap_setCell (kc.az e5 id) _) id) Y));have W5:=Z ((((Kp.refl _ wA).bK 7 _).then k1).comp kB bW (λk J h=>Y));have P:rF N _:=λb A=>cj (e0 b A)
  have e6:=Z P;have e7:Hid (∀W,Kp (hO N d) wB W->F7 W N (E.deeper (E.d+1)) G F s (Q x3 (t.length+1) x4) (Q k5 s.length k6)):=by
   intro W c;have p:Kp _ X W:=(n.k0.trans h7).comp c bW (λk J h=>by have:=n.aaY;unfold hO at h;unfold one;omega);have u:aq W _ s:=w9.kp (W5.comp c (λk _ h=> Yo h) bW) (λb A h=>by
    have:=e0 b A;rcases h with h|h
    .exact e6 b A h
    .omega)
   have h3:=c.own x7 (λb A h=>by have:=aK x7 b A;unfold hO at h;omega);have h9:∀k (l:List UInt8),t[k]?=M l-> ∃x,h8[k]?=M x/\aq W x l/\rF N x:=λk l J=>by
    obtain⟨x,q,T,a⟩:=w4 k l J;exact⟨x,q,T.one a p,a⟩
   have T:fN W N (Q x3 (t.length+1) x4) F:=by
    rcases e4.out with⟨rfl,a⟩|⟨rfl,a⟩
    .rw[a];exact fN.rI h9 e3 h3 x1 (aq.nil _) (rF.nil _)
    .rw[a];exact fN.rI h9 e3 h3 x1 u e6
   refine⟨(n.env.kp p).uw _,T,?_,u,e6,Y,by show 0<=E.d+1;omega,?_,?_⟩
   .intro l q;rcases e4.out with⟨-,a⟩|⟨-,a⟩
    .rw[a]at q;rcases VS.1 q with I|I
     .exact n.rp l I
     .simp at I;subst I;simp
    .rw[a]at q;rcases VS.1 q with I|I
     .exact n.rp l I
     .simp at I;subst I;omega
   .show E.d+1<=16
    have:E.d≠16:=by simpa using x0
    omega
   .have :=n.dl;rcases e4.out with⟨-,a⟩|⟨-,a⟩<;>(rw[a];simp;omega)
  obtain⟨o4,T⟩:=bL (decide (B=4):Bool);have z9:((B:Int)==4)=o4:=by
   rw[T,V4];simp;omega
  have C:=HM.out;rw[<-T]at C;have H0:=Z C;obtain⟨W6,W7⟩:=ae x8;clear C HM x5 x6 W2 W3 P;change Hid _ at kB T;have p0:N<d:=rq n.aaY n.pbL;have H1:(E.deeper (E.d+1)).left σ<=j:=by rw[zO];exact k3
  have H2:(E.deeper (E.d+1)).left σ<f:=by rw[zO];exact hf
  have e8:=IM (G:=G) f _ F s o4 [] Yj σ (λi hi=>(x9.ok i hi).1);have H3:=λ(W:Yw) (c:Kp _ wB W) (a:dR W N _ σ)=>IH W N _ G F s _ _ o4 σ f (e7 W c) a H1 H2
  have k8:=H0.out;generalize az G f _ F s o4 [] Yj σ=u at *;have e9:(E.deeper (E.d+1)).left u.2<=j:=cj (xB e8);have s0:(E.deeper (E.d+1)).left u.2<f:=cj (xB e8);clear H0 e8 H1 H2;replace s0:=Z s0;replace e9:=Z e9;change Hid _ at H3 k8;go_wp2_with fail;refine(H3 _ ((Kp.refl _ wB).bE (Yp U) _ _) (x9.keep ((Kp.refl _ wB).bK _ _) (λk J=>by unfold one;omega))).mono ?_;rintro r H4⟨ba,bl,bc,rfl,y4,K2,s1⟩;replace s1:=Z s1;have s2:=Z (K2.az (heap_setCell x8 _) (show ¬one N d from λe=>h1 e));obtain⟨H5,H6⟩:=ae s2;clear W6 W7;change Hid _ at K2 y4;go_upto_if 79 with fail
  obtain⟨W,s3⟩:=bL (R.2:PS);have W8:Hid (R=(D++s,W)):=by
   show R=(D++s,W)
   rw[s3];have:=k8.out;rw[this]
  have W9:Hid (W=if u.1 then (az G f (E.deeper (E.d+1)) F s Yj [] Yj u.2).2 else if B=4/\s≠[]then cA 3 (u.2.place-1) u.2 else u.2):=by
   show W=_
   rw[s3,k8.out]
  clear s3 k8;have H7:=Z (((Kp.refl (hO N d) wB).bE (Yp U) 5 _).comp K2 bW (λk _ h=> Yo h));have KX:=λ(v:Yx)=>((Kp.refl (hO N d) H4).bE (Yp U) 3 v)
  change Hid _ at KX;go_cut [14] (λx wx=>x= Yt u.1/\dR wx N (E.deeper (E.d+1)) W/\Kp (hO N d) H4 wx/\ ∃ea el ec,wx.heap[d]?=M (IV B g.toNat (Q la ln lc) (Q ba bl bc) (Q ea el ec) (s.length:Nat))/\ ∀q,W= Yn q->(u.1=Yj->Value.slice ea el ec=aV/\u.2= Yn q/\(B=4->s=[]))/\(u.1=Yk-> ∃p c,u.2= Yn p/\bh wx (jA H4 wx) (Q ea el ec) c/\Tree G (E.deeper (E.d+1)) F s Yj [] Yj p c Yj q));case first =>
   have h9:=Z (heap_setCell (o:=3) s2 (Q ba bl bc));have k0:=Z (y4.keep ((Kp.refl (one d) H4).bK 3 (Q ba bl bc)) (λk J=>by unfold one;omega));obtain⟨H9,K0⟩:=ae h9;clear H5 H6;have C:=W9.out;cases hB:u.1
   .rw[hB]at C;simp only[Vq,VL]at C;by_cases x:B=4/\s≠[]
    .rw[Vi x]at C;have k2:o4=true:=by rw[T.out];simpa using x.1
     have k9:0<s.length:=Vs.2 x.2;subst k2;obtain⟨i6,s4,y0,y1,a,h3,-⟩:=k0.dT;obtain⟨y2,-⟩:=ae a;clear x a;change Hid _ at C h3 hB;go_wp2_with fail;refine(dJ k0 _ _ Vb).bw ?_;rintro K1⟨H8,s5⟩;change Hid _ at H8;go_wp2_with fail;go_meet;have he:cA 3 (i6-1) u.2=cA 3 (u.2.place-1) u.2:=by
      rcases h3.out with h|h
      .rw[h]
      .rw[je h,je h]
     refine⟨by rw[hB.out],by rw[C.out,<-he];exact H8,(KX _).comp s5 bW (λk _ h=> Yo h),_,_,_,s5.az h9 (λe=>h1 e),λq S=>?_⟩;rw[C.out]at S;have:=gu (σ:=u.2) 3 (u.2.place-1);rw[S]at this;cases this
    .rw[Va x]at C;have k9:=Z C;have HB:=Z hB;by_cases h3:B=4
     .have k2:o4=true:=by rw[T.out];simpa using h3
      have s4:s=[]:=by
       cases hr:s with
       |nil=>rfl
       |cons a b=>exact absurd ⟨h3,by simp[hr]⟩ x
      have a: ¬(0<s.length):=by rw[s4];simp
      subst k2;clear C hB x h3;change Hid _ at s4;go_wp2_with fail;go_meet;refine⟨by rw[HB.out],by rw[k9.out];exact k0,KX _,_,_,_,h9,λq S=>⟨λ_=>⟨U,by rw[<-S,k9.out],λ_=>s4⟩,λh=>by rw[HB.out]at h;cases h⟩⟩
     .have k2:o4=false:=by rw[T.out];simpa using h3
      subst k2;clear C hB x;replace h3:=Z h3;go_wp2_with fail;go_meet;refine⟨by rw[HB.out],by rw[k9.out];exact k0,KX _,_,_,_,h9,λq S=>⟨λ_=>⟨U,by rw[<-S,k9.out],λh=>absurd h h3⟩,λh=>by rw[HB.out]at h;cases h⟩⟩
   .rw[hB]at C;simp only[VK]at C;change Hid _ at C hB;go_wp2_with fail;refine(IH _ N _ G F s _ _ Yj u.2 f (e7 _ (H7.trans (KX _))) k0 e9 s0).mono ?_;rintro r K1⟨ea,el,ec,rfl,H8,s5,a⟩;replace a:=Z a;have h3:=Z (s5.az h9 (λe=>h1 e));obtain⟨s4,y0⟩:=ae h3;clear H9 K0;change Hid _ at H8;go_wp2_with fail;go_meet;refine⟨by rw[hB.out],by rw[C.out];exact H8.keep ((Kp.refl _ K1).bK 4 _) (λk J=>by unfold one;omega),(((KX _).comp s5 bW (λk _ h=> Yo h)).bE (Yp U) _ _),ea,el,ec,heap_setCell h3 _,λq S=>⟨λh=>(by rw[hB.out]at h;cases h),λ_=>?_⟩⟩;obtain⟨p,hp⟩:∃p,u.2= Yn p:=by
     cases A:u.2 with
     |ok p=>exact⟨p,U⟩
     |error e=>rw[C.out,A,lI U]at S;cases S
    obtain⟨c,k2,x⟩:=a p q hp (by rw[<-S,C.out]);have k9:=rH x U;rw[k9]at x;have y1:=s5.size;have y2:=au s2;refine⟨p,c,hp,k2.kp ((Kp.refl _ K1).bK 4 _) (λb A e=>?_) (λb A=>?_),x⟩
    .unfold jA at A;unfold one at e;simp at A;omega
    .unfold jA at A⊢;simp at A⊢;omega
  case rest=>
   rename Yw=>wD
   obtain⟨rfl,a,kD,ea,el,ec,s4,s5⟩:=hcut;change Hid _ at s5;have y0:=Z a;obtain⟨iD,p1,p2,p3,H8,-,-⟩:=a.dT;obtain⟨p4,p5⟩:=ae H8;clear a H5 H6;change Hid _ at kD s4 H8;have H9:=H7.trans kD;have x:=H9.bE (Yo U) 7 (V O E.d);have h3:∀b,(Value.slice w2 D.length w3).ownBlock=M b->m<=b/\b<w.heap.size:=λb A=>n.own.lt b A
   have h9:∀b,(Value.slice w2 D.length w3).ownBlock=M b->b≠d:=λb A e=>n.acn (by rw[A,e])
   have p6:=n.acm;have k0:(wD.setCell _ _).ownsRow m 5 1 _ D.length _:=
    x.own (h7.own n.own (λb A e=>by have:=h3 b A;unfold one at e;omega)) (λb A e=>by have:=h3 b A;have:=h9 b A;unfold hO at e;omega)
   have p7:=n.Rk;change Hid _ at x h3 h9 H9;replace k0:=Z k0;go_wp2_with(at_builtin;refine b7 _ U _ _ 25 U m 5 i1 _ 1 1 underlying25 K4 K5 K6 K7 U Vb _ _ _ U k0 _ s.length (cw s) U ((e7 _ x).res) (bV _) ?c3 ?c4 ?c5 ?_);case c3=>unfold maxLen;omega
   case c4=>omega
   case c5=>have I:=h7.size;have h4:=x.size;have q2:=n.aco;simp at h4⊢;omega
   intro v9 k9 k2 K0;change Hid _ at K0;replace k2:=Z k2;go_wp2;go_ret;rw[W8.out];have K1:Kp _ _ k9:=(Kp.refl _ _).bS K0 (λk J=> Yo J);have y1:dR _ N E W:=y0.uw E.d ((Kp.refl _ wD).bK 7 (V O E.d)) (λi' e' p' e5=>heap_setCell e5 _);refine⟨v9,U,by simpa using k2.out,y1.keep K1 (λk J e=>cj (h3 k e)),?_,ba,bl,bc,ea,el,ec,_,K1.az (aB (λe=>h1 e) _ s4) (λe=>h9 d e U),?_⟩
   .refine(h7.comp x (λk _ h=> Yo h) (λk _ h=>?_)).comp K1 bW (λk _ h=> Yp (Yp h));rcases h with h|h
    .exact Yo h
    .exact Yp (Yo h)
   .intro i' q J S;have e5:W= Yn q:=S;obtain⟨e1,e2⟩:=s5 q e5;have P:s=rs g:=h5;have y2:=h7.size;have a:=kD.size;have p8:wB.heap.size<=H4.heap.size:=by have:=K2.size;simpa using this
    have p9:wD.heap.size<=k9.heap.size:=by have:=K1.size;simpa using this
    have q0:d<w.heap.size:=w0;have q1:N<w.heap.size:=k4;have k:∀{v:Yx} {l:List Nd} {lo hi:Yw},bh wD (jA lo hi) v l->w.heap.size<=lo.heap.size->hi.heap.size<=wD.heap.size->bh k9 (jA w k9) v l:=by
     intro v l lo hi h I h4;have y3:bh _ _ v l:=h.kp ((Kp.refl (one N) wD).bK 7 (V O E.d)) (λb A e=>by unfold jA at A;unfold one at e;omega) (λ_ h=>h);exact y3.kp K1 (λb A e=>by have:=(h3 b e).2;unfold jA at A;omega) (λb A=>by unfold jA at A⊢;omega)
    have l:∀p,u.2= Yn p-> ∃b,bh k9 (jA w k9) (Q ba bl bc) b/\Tree G (E.deeper (E.d+1)) F s o4 [] Yj i' b u.1 p:=by
     intro p hp;obtain⟨b,I,h4⟩:=s1 i' p J hp;refine⟨b,k (I.kp kD (λb A e=>?_) (λ_ h=>h)) (by simpa using y2) a,h4⟩;unfold jA at A;simp at A;rcases e with e|e
     .rw[e]at A;omega
     .rw[e]at A;omega
    have e:E.d≠16:=by simpa using x0
    cases hB:u.1 with
    |false=>
     obtain⟨v,f2,f3⟩:=e1 hB;obtain⟨b,I,h4⟩:=l q f2;rw[hB,h0.out,T.out,P]at h4;rw[v];exact⟨b,[],I,bh.nil,by rw[P],e,Yo ⟨h4,by rw[<-P];exact f3,U⟩⟩
    |true=>
     obtain⟨p,c,v,f2,f3⟩:=e2 hB;obtain⟨b,I,h4⟩:=l p v;have ho:o4=true:=by
      cases h:o4 with
      |true=>rfl
      |false=>have:=rH h4 h;rw[hB]at this;cases this
     have y3:B=4:=by have:=T;rw[ho]at this;simpa using this.symm
     rw[hB,ho,h0.out,P,Va Y]at h4;rw[h0.out,P,Va Y]at f3;exact⟨b,c,I,k f2 Y cQ,by rw[P],e,Yp ⟨y3,p,h4,f3⟩⟩
def Ke:(Tryz.prog.info? 309).map (λi=>(i.zero,i.size,i.bytes))=M (M (.agg #[V Ys 0,V Yr 0,Q H 0 0,Q H 0 0,Q H 0 0,V O 0]),6,96):=Vf
def Gh:∃i,Tryz.prog.info? 309=M i/\i.zero=M (.agg #[V Ys 0,V Yr 0,Q H 0 0,Q H 0 0,Q H 0 0,V O 0])/\i.size=6/\i.bytes=96:=info_parts Ke
def D0(h:fO g=Yk)(b:g≠5)(a:g≠11):wU g.toNat:=by
 have e5:g.toNat≠5:=λe=>b (Vp.1 e)
 have c:g.toNat≠11:=λe=>a (Vp.1 e)
 grind[fO,wU,eL]
def Gi{e1 e2:TypeId}{x2:List Yx}(d:X.ownsRow k e1 j u q F)(e:X.ownsRow t e2 N z c x2)(o:e1≠e2):∀b,u.ownBlock=M b->z.ownBlock≠M b:=by
 intro b a f;obtain⟨-,⟨rfl,-⟩|⟨g,h,i,rfl,-,p,-⟩⟩:=d
 .cases a
 obtain⟨-,⟨rfl,-⟩|⟨r,l,m,rfl,-,n,-⟩⟩:=e<;>grind[Value.ownBlock]
def Gj{e1 e2:TypeId}{a:Array Yx}{b:Nat×Nat}(c:X.ownsRow t e1 j u N F)(h:X.heap[k]?=M (Yl a e2 b))(i:e1≠e2):u.ownBlock≠M k:=by
 intro d;obtain⟨-,⟨rfl,-⟩|⟨g,e,f,rfl,-,l,-⟩⟩:=c<;>grind[Value.ownBlock]
def aa2(w wr:Yw)(ov:Yx):Nat->Prop:=λb=>w.heap.size<=b/\b<wr.heap.size/\ov.ownBlock≠M b
def Nz(w wr:Yw)(G:ez)(E:PE)(ag:List (List UInt8))(aL:List UInt8)(other:Bool)(MW:PS)(stack:List UInt8)(dead:Bool)(wW:PS)(ov:Yx)(MX:Nat)(oc:List Yx):Prop:= ∀i',wW= Yn i'->
 ∃acc:List Nd,acc.length=MX/\pd wr (aa2 w wr ov) oc acc/\ ∀i0 l e q,MW= Yn i0->Tree G E ag aL other stack dead i' l e q->Tree G E ag aL other [] Yj i0 (acc++l) e q
section
variable{w wr w':World}{G:ez}{E:PE}{ag:List (List UInt8)}{aL:List UInt8}{other:Bool}{MW:PS}{stack:List UInt8}{dead:Bool}{wW:PS}{ov:Value}{MX pb:Nat}{oc:List Value}
def Nz.start:Nz w w G E ag aL other MW [] Yj MW aV 0 []:=λa hi=>⟨[],U,λk x h=>by simp at h,λa l e q b t=>Ve⟩
def Nz.done(h:Nz w wr G E ag aL other MW stack dead wW ov MX oc)(j:wr.ownsRow w.heap.size 309 6 ov MX oc)(k:Kp (one pb) wr w')(m:pb<w.heap.size){l:Bool} 
  (n:∀q,f= Yn q-> ∃d,wW= Yn d/\Tree G E ag aL other stack dead d [] l q):nj w w' G E ag aL other MW ov (l,f):=by
 intro i q hi o;obtain⟨d,p,t⟩:=n q o;obtain⟨g,r,s,u⟩:=h d p;have v:=k.size;have c:aw w' ov 6 MX oc:=aw.own (k.own j (λb a e=>by have:=aK j b a;grind[one]));rw[<-r]at c;refine⟨g,pd.at (s.kp k (λb a e=>?_) (λb a=>?_)) c (λb a=>?_),Ve⟩
 .have :=a.1;grind[one]
 .have :=a.1;have:=a.2.1;grind[jA]
 grind[jA,World.ownsRow.lt]
def Nz.more(h:Nz w wr G E ag aL other MW stack Yj wW ov MX oc){wy:Yw}{bv ev:Yx}(J:oc.length=MX*6)(K:Kp P wr X)(o:Kp R X wy)(hS:∀b,w.heap.size<=b->b<wr.heap.size-> ¬P b)(j:∀b,R b->ov.ownBlock=M b)(p:∀b,ov.ownBlock=M b->b<wr.heap.size)
  (r:u.ownBlock=ov.ownBlock\/u.ownBlock=M X.heap.size\/ ∃b,u.ownBlock=M b/\X.heap.size<=b){m:Bool}(T:w.heap.size<=wr.heap.size)
  (s:eS X z L)(x:∀b,z.ownBlock=M b->wr.heap.size<=b)
  (A:∀d i,wW= Yn d->f= Yn i-> ∃(b c:List Nd) (v:Nat),y=v/\bh X (jA wr X) bv b/\bh X (jA wr X) ev c/\ ∀l e q,Tree G E ag aL other D m i l e q->Tree G E ag aL other stack Yj d (⟨g,k,L,b,c,v⟩::l) e q)(B:∀i,f= Yn i-> ∃d,wW= Yn d):
  Nz w wy G E ag aL other MW D m f u (MX+1) (oc++[V Ys g.toNat,V Yr k,z,bv,ev,V O y]):=by
 intro i N;obtain⟨d,S⟩:=B i N;obtain⟨C,W,hr,hT⟩:=h d S;obtain⟨b,c,v,rfl,a,hc,ht⟩:=A d i S N;have h0:=K.size;have h1:=o.size;have F:∀b,wr.heap.size<=b->b<X.heap.size->u.ownBlock≠M b:=λb n t e=>by
  grind
 have I:∀b,jA wr X b->aa2 w wy u b:=λb a=>⟨cj a.1,cj a.2,F b a.1 a.2⟩
 have n:∀b,jA wr X b-> ¬R b:=λb a e=>rq (p b (j b e)) a.1
 refine⟨C++[⟨g,k,L,b,c,v⟩],by simp[W],pd.rI ?_ Y _ ?_ ?_ (a.kp o n I) (hc.kp o n I),λi0 l e q h2 t=>Ve⟩
 .refine(hr.kp K (λb a=>hS b a.1 a.2.1) (λ_ h=>h)).kp o (λb a e=>a.2.2 (j b e)) (λb a=>⟨a.1,cj a.2.1,λe=>?_⟩);rcases r with h|h|⟨q,h,l⟩
  .rw[h]at e;exact a.2.2 e
  .rw[h]at e;cases e;have:=a.2.1;omega
  .rw[h]at e;cases e;have:=a.2.1;omega
 .grind[wX]
 .exact λJ b a=>I b ⟨x b a,IL s J b a⟩
end
def Kf(B:PE->List (List UInt8)->List UInt8->Bool->PS->Bool×PS)(E:PE)(b:List (List UInt8))(d:Nat)(t:UInt8)(c:Int)(a:List UInt8)(e:PS)(h:E.d≠16):(et B E b d t.toNat c a e).1=a++rs t:=by
 unfold et rs;rw[Va h];simp only;by_cases ht:t=64
 .simp_all
 .exact zQ
def zY(h:bn f=Yj):∃i,f= Yn i:=by
 cases f with
 |ok i=>simp
 |error e=>cases h
def Gk(w:Yw)(pb:Nat)(E:PE)(G:ez)(ag:List (List UInt8))(aL:List UInt8)(other:Bool)(T:Bool×PS)(MW:PS)(n f:Nat)(ov sv dv:Yx)(wr:Yw):Prop:=
 ∃(stack:List UInt8) (dead:Bool) (wW:PS) (MX:Nat) (oc:List Yx),dv= Yt dead/\wr.ownsRow w.heap.size 309 6 ov MX oc/\wr.ownsRow w.heap.size 5 1 sv stack.length (cw stack)/\dR wr pb E wW/\Kp (one pb) w wr/\
  stack.length+3000*E.left wW<=6003000/\MX+E.left wW<=2001/\E.left wW<=n/\E.left wW<f/\az G f E ag aL other stack dead wW=T/\Nz w wr G E ag aL other MW stack dead wW ov MX oc
def Rv(a b:List UInt8):(gp a b).1.length<=a.length:=by
 grind[gp]
def D1(h:X.ownsRow k T j u N F)(i:t<=k):X.ownsRow t T j u N F:=by
 obtain⟨c,d|⟨g,a,b,e,l,f⟩⟩:=h
 .exact⟨c,Yo d⟩
 .exact⟨c,Yp ⟨g,a,b,e,Y,f⟩⟩
def D2(w:Yw)(a c1 c2 c3 c4 c5:Yx)(t:TypeId):aw (w.alloc (Yl #[a,c1,c2,c3,c4,c5] t)) (Q (M ⟨w.heap.size,0,H⟩) 1 1) 6 1 [a,c1,c2,c3,c4,c5]:=
 ⟨U,Yp ⟨_,0,1,U,cQ,λk u b=>by
  have h:=ai w (Yl #[a,c1,c2,c3,c4,c5] t);simp_all⟩⟩
def Rw(x:UInt8):(((x.toNat:Int)==0)||((x.toNat:Int)==12)||((x.toNat:Int)==14)||((x.toNat:Int)==15))=decide (x=0\/x=12\/x=14\/x=15):=by
 rw[V4];simp[<-Vp];omega
def Kg(B:PE->List (List UInt8)->List UInt8->Bool->PS->Bool×PS)(E:PE)(b:List (List UInt8))(d n:Nat)(c:Int)(a:List UInt8)(e:PS):(et B E b d n c a e).1.length<=a.length+1:=by
 grind[et]
def Cj(h:dR X k e f):e.left f<=2000:=by
 have a:=h.len;have b:=h.en;cases f<;>simp[PE.left]<;>omega
def zZ{P:Prop}(h:P:=by
 go_wp2_with fail;refine(bz H5.out).cJ ?_;go_wp2;go_ret2;rw[<-HB.out];exact⟨H,0,0,U,H5.out,(MY.out.trans k2).trans k5,nj.bad Uz⟩):P:=h
theorem xI(IH:∀m,m<N->wY m):wY N:=by
 intro w pb E G ag h9 lv rv h1 σ f k0 X x2 p2;obtain⟨T,hT⟩:=bL (az G f E ag h9 h1 [] Yj σ);rw[<-hT];have HT:=Z hT.symm;have HP:=Z k0;have HS:=Z X;have W0:=X.lt;have r9:=Cj X;obtain⟨ad,t0,rfl,_⟩:=k0.res.aJ;clear hT k0 X;change Hid _ at IH;replace x2:=Z x2;go_enter func161,ntmps161;go_wp2;go_loopg [10,11,12] f (λk a b c wr=>Gk w pb E G ag h9 h1 T σ N k a b c wr/\k<=f);case atStart=>exact⟨⟨[],Yj,σ,0,[],U,World.ownsRow_nil _ _ _ _,World.ownsRow_nil _ _ _ _,HS,iR,Vd,Y,x2,p2,HT,Nz.start⟩,cQ⟩
 case round=>
  obtain⟨⟨stack,h4,d,h2,oc,rfl,n,h0,k9,W1,t1,t2,t3,t4,a,k1⟩,t5⟩:=hrel;replace k1:=Z k1;obtain⟨g,rfl⟩:∃g,gk=g+1:=⟨gk-1,Y⟩;rw[az]at a;dsimp only at a;have h5:=Z k9;have MY:=Z W1;obtain⟨w8,w9,rfl⟩:=aA n;obtain⟨t6,t7,rfl⟩:=aA h0;obtain⟨i,t8,pl,hi,s,hp,-⟩:=k9.dT;obtain⟨hc,-⟩:=ae s;clear W1 s;change Hid _ at hp;replace h0:=Z h0;replace n:=Z n;by_cases K:bn d=Yk
  .rw[Vi K]at a;have HB:=Z a;clear a k9;go_wp2_with fail;refine(bz h5).cJ ?_;go_wp2;go_ret2;rw[<-HB.out];exact⟨H,0,0,U,h5,MY,nj.bad K⟩
  .rw[Va K]at a;simp only[VG]at K;have hn:=sy k9;have W2:=o9 (E:=E) (σ:=d);have e0:b8 E d=((b8 E d).1,(b8 E d).2):=rfl;generalize(b8 E d).1=x at *;generalize(b8 E d).2=m at *;change Hid _ at e0;have Hn:=Z hn;have t9:=x.toNat_lt;clear hn k9;by_cases h6:bn m=Yk
   .rw[Vi h6]at a;have HB:=Z a;clear a;go_wp2_with fail;refine(bz h5).cJ ?_;go_wp2_with fail;refine Hn.bw ?_;rintro W3⟨B,k2⟩;change Hid _ at B;go_wp2_with fail;refine(bz B).cJ ?_;go_wp2;go_ret2;rw[<-HB.out];exact⟨H,0,0,U,B,MY.trans k2,nj.bad h6⟩
   .rw[Va h6]at a;simp only[VG]at h6;have u0:=W2.left h6;have e6:∀e,cA e i m=cA e d.place m:=λe=>jH hp (λh=>by rw[K]at h;cases h) e
    clear W2;change Hid _ at e6;have q5:=lH x 5;have e7:=lH x 11;rw[show(((5:UInt8).toNat:Nat):Int)=5 from U]at q5;rw[show(((11:UInt8).toNat:Nat):Int)=11 from U]at e7;by_cases L:x=5\/x=11
    .rw[Vi L]at a;obtain⟨t,c⟩:=bL (decide (x=5):Bool);obtain⟨A,j⟩:=bL (decide (stack=h9):Bool);have C:((x.toNat:Int)==5)=t:=by rw[q5,c];rfl
     have y:t=Yj->((x.toNat:Int)==11)=true:=by
      intro h;rw[e7];rcases L with S|S
      .rw[c,S]at h;simp at h
      .simp[S]
     have hT:T=(t,if (h4=Yj/\A=Yj)\/(t=Yk/\h1=Yj)then cA 3 d.place m else m):=by
      rw[<-a,c,j];simp
     have u:(h4=Yk\/A=Yk)/\(t=Yk->h1=Yk)-> ∀q,m= Yn q-> ∃i',d= Yn i'/\Tree G E ag h9 h1 stack h4 i' [] t q:=λh7 q B=>by
      obtain⟨i',S⟩:=zY K;refine⟨i',S,?_⟩;have hn:=e0.out;rw[S,B]at hn;rw[c];refine .fW hn L ?_ (λh=>h7.2 (by rw[c];simpa using h));rcases h7.1 with h|h
      .exact Yo h
      .right;rw[j]at h;simpa using h
     change Hid _ at u;clear a L c q5 e7;change Hid _ at hT j y;go_wp2_with fail;refine(bz h5).cJ ?_;go_wp2_with fail;refine Hn.bw ?_;rintro W3⟨B,k2⟩;have l:=MY.trans k2;have o:aq W3 _ stack:=aq.kp (aw.own h0) k2 (λb s e=>by have:=aK h0 b s;unfold one at e;omega);have p:=HP.res.one HP.ack l;replace p:=Z p;replace o:=Z o;change Hid _ at B;go_wp2_with fail;refine(bz B).cJ ?_;have v:∀r,dR r pb E _->dR r pb E (cA 3 d.place m):=λr h=>by rw[<-e6.out];exact h
     change Hid _ at v;cases t
     .have F:=y U;go_wp2_with fail;refine(fq o p Y).bw ?_;rintro D r;rw[<-j.out];have z:=Z (B.no r);cases h4<;>cases A
      .go_wp2_with fail;refine(dJ z _ _ Vb).bw ?_;rintro p3⟨k3,k5⟩;have H5:=Z k3;clear k3;go_wp2;go_ret2;rw[hT.out];exact⟨w8,h2,w9,U,v _ H5,(l.then r).trans k5,nj.bad (show bn _=Yk from gu _ _)⟩
      all_goals
       go_wp2;go_ret2;rw[hT.out];exact⟨w8,h2,w9,U,z,l.then r,k1.done n (k2.then r) W0 (u Vc)⟩
     .go_wp2_with fail;refine(fq o p Y).bw ?_;rintro D r;rw[<-j.out];have z:=Z (B.no r);cases h4<;>cases A<;>cases h1;all_goals first
       |(go_wp2_with fail
         refine(dJ z _ _ Vb).bw ?_;rintro p3⟨k3,k5⟩;have H5:=Z k3;clear k3;go_wp2;go_ret2;rw[hT.out];exact⟨w8,h2,w9,U,v _ H5,(l.then r).trans k5,nj.bad (show bn _=Yk from gu _ _)⟩)
       |(go_wp2
         go_ret2
         rw[hT.out];exact⟨w8,h2,w9,U,z,l.then r,k1.done n (k2.then r) W0 (u Vc)⟩)
    .rw[Va L]at a;have w0:x≠5:=λe=>L (Yo e)
     have w1:x≠11:=λe=>L (Yp e)
     rw[show(x==5)=Yj by simpa using w0]at q5;rw[show(x==11)=Yj by simpa using w1]at e7;by_cases C:fO x=Yj
     .rw[Vi C]at a;have HB:=Z a;clear a L w0 w1;go_wp2_with fail;refine(bz h5).cJ ?_;go_wp2_with fail;refine Hn.bw ?_;rintro W3⟨B,k2⟩;change Hid _ at B;go_wp2_with fail;refine(bz B).cJ ?_;go_wp2_with fail;refine(uu _ x).cJ ?_;go_wp2_with fail;refine(dJ B _ _ Vb).bw ?_;rintro p3⟨k3,k5⟩;rw[e6.out]at k3;have H5:=Z k3;have Uz:=gu (σ:=m) 2 d.place;clear k3;cases h4
      .exact zZ
      .go_wp2_with fail;refine(dJ H5 _ _ Vb).bw ?_;rintro w6⟨x3,p4⟩;rw[je Uz]at x3;change Hid _ at x3;go_wp2_with fail;refine(bz x3).cJ ?_;go_wp2;go_ret2;rw[<-HB.out];exact⟨H,0,0,U,x3,((MY.trans k2).trans k5).trans p4,nj.bad Uz⟩
     .rw[Va C]at a;simp only[WE]at C;cases P:h4
      .rw[P]at a;rw[Va Vc]at a;subst P;have W4:=D0 C w0 w1;have e8:T5 wr pb E G ag stack lv _:=
        ⟨HP.env.kp MY,HP.lab.kp MY,rq HP.dl HP.T6,HP.rp,rq HP.dl HP.d0,aw.own h0,λb s=>cj (aK h0 b s),Y⟩
       have W5:=J8 (E:=E) (stack:=stack) (op:=x.toNat) (σ:=m) HP.rp HP.env.sA;have e9:=qo (E:=E) (G:=G) (ag:=ag) (stack:=stack) (op:=x.toNat) (σ:=m);have x4:=λ(W:Yw) (c:dR W pb E m) (k:Kp _ wr W)=>J2 e8 c k i x.toNat W4
       have x5:(x=2\/x=3\/x=4)-> ∃t:UInt8,(aX E G ag stack x.toNat m).1.n=t.toNat/\cB E 64 127 126 m=(t,(aX E G ag stack x.toNat m).2)/\(aX E G ag stack x.toNat m).1.take=(if x=4 then [127]else [])/\(aX E G ag stack x.toNat m).1.put=[]/\(aX E G ag stack x.toNat m).1.ag=[]:=by
        intro h;refine⟨(cB E 64 127 126 m).1,?_⟩;rcases h with rfl |rfl |rfl <;>exact⟨U,U,U,U,U⟩
       have k4:aX E G ag stack x.toNat m=((aX E G ag stack x.toNat m).1,(aX E G ag stack x.toNat m).2):=rfl;generalize W6:aX E G ag stack x.toNat m=y at k4 x5 x4 e9 W5 a;have p5:=Z (W6.trans k4);clear W6 k4;have HB:=Z a;clear a L W4;change Hid _ at x4 e9 x5 e8;obtain⟨u1,u2⟩:=W5;go_wp2_with fail;refine(bz h5).cJ ?_;go_wp2_with fail;refine Hn.bw ?_;rintro W3⟨B,k2⟩;have W7:=Z B;clear B;go_wp2_with fail;refine(bz W7).cJ ?_;go_wp2_with fail;refine(uu _ x).cJ ?_;go_wp2_with fail;refine(bz W7).cJ ?_;go_wp2_with fail;refine(x4 _ W7 k2).mono ?_;rintro e w6⟨⟨u3,tv,pv,rfl,⟨p6,k6,x6⟩,⟨p7,s0,p8⟩,⟨p9,s1,q0⟩⟩,x3,p4⟩;obtain⟨la,lc,rfl,_⟩:=k6.aJ;obtain⟨ta,tc,rfl,_⟩:=s0.aJ;obtain⟨pa,pc,rfl,_⟩:=s1.aJ;have D:=k2.trans p4;have x7:=D.own h0 (λb s e=>by have:=aK h0 b s;unfold one at e;omega);have I:=Z (MY.trans D);clear p6 p7 p8 p9 q0;change Hid _ at x6;replace k6:=Z k6;replace x7:=Z x7;replace s1:=Z s1;replace s0:=Z s0;change Hid _ at x3;go_wp2_with fail;refine(Rg ((aq.kp (aw.own x7) ((Kp.refl no w6).alloc _) bW)) (s0.kp ((Kp.refl no w6).alloc _) bW) Y Y).mono ?_;rintro e w7⟨vl,rfl,s2,q1,q6⟩;obtain⟨va,vc,rfl,_⟩:=s2.aJ;have u4:=Rv stack y.1.take;have F:=HB.out;have x8:(gp stack y.1.take).2=Yk->stack=(gp stack y.1.take).1++y.1.take:=λh=>sD.1 ⟨h,U⟩
       generalize gp stack y.1.take=o at *;change Hid _ at x8;have kX:Kp no w6 w7:=((Kp.refl no w6).alloc _).trans q6;have K9:=Z (x3.no kX);have x9:w7.heap[w6.heap.size]?=M (IV x.toNat y.1.n _ aV aV y.1.value):=q6.az (ai _ _) id;have w2:=Z F;have H0:cA 3 _ y.2=cA 3 d.place y.2:=jH hp (λh=>by rw[K]at h;cases h) 3;clear q1 F HB q6;change Hid _ at kX x9 H0;replace s2:=Z s2;by_cases H1:y.1.ok=Yk/\o.2=Yk
       .obtain⟨h7,s3⟩:=H1;have F:=w2.out;rw[Va (show ¬(y.1.ok=Yj\/o.2=Yj)by simp[h7,s3])]at F;by_cases h8:bn y.2=Yk
        .rw[Vi h8]at F;have HB:=Z F;clear F w2;go_wp2_with fail;refine(bz K9).cJ ?_;go_wp2;go_ret2;rw[<-HB.out];exact⟨H,0,0,U,K9,I.then kX,nj.bad h8⟩
        .rw[Va h8]at F;simp only[VG]at h8;have HB:=Z F;clear F w2;go_wp2_with fail;refine(bz K9).cJ ?_;have u5:w6.heap.size<w7.heap.size:=au x9;have q7:pb<w7.heap.size:=cj I.size;obtain⟨j1,W8,W9,y0,y1⟩:=mZ;go_wp2_with(at_builtin;refine b7 _ U _ _ 25 U w7.heap.size 5 j1 _ 1 1 underlying25 W8 W9 y0 y1 U Vb _ _ _ U (World.ownsRow_nil _ _ _ _) _ o.1.length (cw o.1) U s2 (bV _) ?c3 ?c4 ?c5 ?_);case c3=>unfold maxLen;omega
         case c4=>omega
         case c5=>simp
         intro ha q8 w3 y2;obtain⟨a9,c9,rfl⟩:=aA w3;have w4:Kp no w7 q8:=(Kp.refl no w7).bS y2 (λk C=>by cases C);have H2:aq q8 _ y.1.put:=s1.kp (kX.trans w4) bW;have u6:=w4.size;clear y2;replace H2:=Z H2;change Hid _ at w4;replace w3:=Z w3;go_wp2_with(at_builtin;refine b7 _ U _ _ 25 U w7.heap.size 5 j1 _ 1 1 underlying25 W8 W9 y0 y1 U Vb _ _ _ U w3 _ y.1.put.length (cw y.1.put) U H2 (bV _) ?d3 ?d4 ?d5 ?_);case d3=>unfold maxLen;omega
         case d4=>omega
         case d5=>omega
         intro u7 R W y3;obtain⟨y4,y5,rfl⟩:=aA W;have h3:Kp (λk=>w7.heap.size<=k) q8 R:=(Kp.refl _ _).bS y3 (λk C=> Yo (aK w3 k C));have s4:=Z h3;have s5:=h3.az (w4.az x9 id) (show ¬(w7.heap.size<=w6.heap.size)by omega);obtain⟨y6,q9⟩:=ae s5;have s6:=Z ((((MY.trans D).then kX).then w4).comp h3 bW (λk C h=>cj I.size));have H3:=Z (((K9.no w4).keep h3 (λk C=>Y)));have k7:=h3.own (w4.own (kX.own (D.own n (λb s e=>by have:=aK n b s;unfold one at e;omega)) bW) bW) (λb s e=>by
          have S:=(n.lt b s).2;have B:=D.size;omega)
         have u8:w6.heap.size<R.heap.size:=au s5;have q2:=lH x 2;have q3:=lH x 3;have q4:=lH x 4;rw[show(((2:UInt8).toNat:Nat):Int)=2 from U]at q2;rw[show(((3:UInt8).toNat:Nat):Int)=3 from U]at q3;rw[show(((4:UInt8).toNat:Nat):Int)=4 from U]at q4;clear y3 h3;replace k7:=Z k7;change Hid _ at s5;replace W:=Z W;obtain⟨j2,y7,y8,y9,z0⟩:=Gh;by_cases A:x=2\/x=3\/x=4
         .obtain⟨t,ht,k8,z1,z2,H4⟩:=x5 A;have r0:=Z k8;clear k8;change Hid _ at z1 z2 H4;have r1:E.left y.2+1<=E.left d:=by
           have S:=(e9 (λj hj=>(W7.ok j hj).1)).left h8;omega
          have F:=HB.out;rw[Vi A,ht]at F;have z3:i=d.place:=by
           rcases hp.out with h|h
           .exact h
           .rw[K]at h;cases h
          rw[<-z3]at F;clear z3;have s7:=s5.out;rw[ht]at s7;have z4:x.toNat=2\/x.toNat=3\/x.toNat=4:=by
           rcases A with rfl |rfl |rfl
           .exact Yo U
           .exact Yp (Yo U)
           .exact Yp (Yp U)
          have H6:R.ownsRow w7.heap.size 5 1 (Q y4 (o.1.length+y.1.put.length) y5) (o.1++y.1.put).length (cw (o.1++y.1.put)):=by simpa using W.out
          have H7:Kp _ wr R:=((D.then kX).then w4).comp s4 bW (λk C h=>cj D.size);have k0:T7 wr R pb E G ag lv _ _ w6.heap.size w7.heap.size x.toNat t la y.1.ag.length lc y.1.value:=
           ⟨e8.env,e8.lab,H7,D.size,cj MY.size,HP.rp,HP.d0,HP.T6,HP.dl,s7,cj I.size,H6,q7,Gj H6 s7 Vb,rq w4.size s4.size,by simp only[Vn];omega,z4⟩
          have H8:=Ns (f:=g) (IH (N-1) Y) k0 H3 Y Y i;have H9:=Kg (λc u v p d=>az G g c u v p [] Yj d) E ag x.toNat t.toNat i (o.1++y.1.put) y.2;have u9:E.left (et (λc u v p d=>az G g c u v p [] Yj d) E ag x.toNat t.toNat i (o.1++y.1.put) y.2).2<=E.left y.2:=
           xB (zP (λc l r p z J hh=>(IM g c l r p [] Yj z (λj hj=>by rw[J];exact hh j hj)).en J) (λc l r p z s=>by rw[lI s];exact s) (λj hj=>(H3.ok j hj).1))
          have z5:=Kf (λc u v p d=>az G g c u v p [] Yj d) E ag x.toNat t i (o.1++y.1.put) y.2;generalize et _ E ag x.toNat t.toNat i _ y.2=z at *;change Hid _ at z5;have P:decide (x=0\/x=12\/x=14\/x=15)=false:=by
           rcases A with rfl |rfl |rfl <;>decide
          rw[P]at F;clear HB k0 s7 H6 z4 P;change Hid _ at F;replace H9:=Z H9;replace H8:=Z H8;rw[ht]at y6;change Hid _ at ht;have r2:(((x.toNat:Int)==2)=Yk)\/(((x.toNat:Int)==2)=Yj/\((x.toNat:Int)==3)=Yk)\/(((x.toNat:Int)==2)=Yj/\((x.toNat:Int)==3)=Yj/\((x.toNat:Int)==4)=Yk):=by
           rcases A with rfl |rfl |rfl
           .exact Yo U
           .exact Yp (Yo ⟨U,U⟩)
           .exact Yp (Yp ⟨U,U,U⟩)
          have hb:((x.toNat:Int)==0)=false:=by rcases A with rfl |rfl |rfl <;>rfl
          have v0:((x.toNat:Int)==12)=false:=by rcases A with rfl |rfl |rfl <;>rfl
          have v1:((x.toNat:Int)==14)=false:=by rcases A with rfl |rfl |rfl <;>rfl
          have v2:((x.toNat:Int)==15)=false:=by rcases A with rfl |rfl |rfl <;>rfl
          clear q2 q3 q4;change Hid _ at A;rcases r2 with q2|⟨q2,q3⟩|⟨q2,q3,q4⟩
          all_goals
           go_wp2_with fail;refine H8.mono ?_;rintro e r⟨r3,rfl,w5,z6,J,ba,bl,bc,ea,el,ec,r4,K0,K1⟩;replace K1:=Z K1;obtain⟨K2,K3,rfl⟩:=aA w5;obtain⟨v3,v4⟩:=ae K0;have v5:w6.heap.size<r.heap.size:=au K0;have s8:=J.own k7 (λb s e=>by
            have S:=(n.lt b s);have B:=D.size;rcases e with e|e|e
            .omega
            .omega
            .exact Gi k7 W Vb b s (by simpa using e))
           have v6:=J.size;clear K0 y6 q9;replace s8:=Z s8;change Hid _ at z6 J;replace w5:=Z w5;go_wp2_with(at_builtin;refine bj _ U _ _ 191 U w.heap.size 309 j2 _ 6 96 underlying191 y7 y8 y9 z0 U Vb _ _ _ U (s8.alloc _) _ 1 [V Ys x.toNat,V Yr t.toNat,Q la y.1.ag.length lc,Q ba bl bc,Q ea el ec,V O r4] U ?e2 ?e1 ?e3 ?e4 ?e5 ?_);case e2=>exact D2 _ _ _ _ _ _ _ _
           case e1=>first |exact⟨U,U,U,U,U,U⟩|(intro u hu;simp at hu;rcases hu with rfl |rfl |rfl |rfl |rfl |rfl <;>rfl)
           case e3=>unfold maxLen;omega
           case e4=>omega
           case e5=>have:=s6.size;simp;omega
           intro v7 z7 s9 z8 z9;change Hid _ at z9;obtain⟨r5,r6,rfl⟩:=aA s9;have x0:Kp _ r z7:=((Kp.refl _ r).alloc _).bS z8 (λk C=> Yo C);have x1:=Z x0;clear z8 x0;replace s9:=Z s9;have hrel:Gk w pb E G ag h9 h1 T σ N g (Q r5 (h2+1) r6) (Q K2 z.1.length K3) (Yt Yj) z7/\g<=f:=by
            refine⟨⟨z.1,Yj,z.2,h2+1,_,U,s9,?_,?_,?_,?_,?_,?_,?_,?_,?_⟩,Y⟩
            .exact D1 (x1.own w5 (λb s e=>Gi s8 w5 Vb b e s)) (cj I.size)
            .exact z6.keep x1 (λk C e=>cj (aK n k e))
            .refine(s6.comp J bW (λk C h=>?_)).comp x1 bW (λk C h=>cj (aK n k h));have:=I.size;rcases h with h|h|h
             .exact h
             .omega
             .have :=aK W k (by simpa using h);omega
            .have :=H9.out;simp only[Vn]at this;omega
            .omega
            .omega
            .omega
            .exact F
            .have K4:=MY.size;have r7:=I.size;have v8:=H7.size;have v9:=D.size;have r8:=kX.size;have x0:Kp (λb=> ¬(b<wr.heap.size/\w.heap.size<=b)) wr r:=H7.comp J (λk C h=>by unfold one at h;omega) (λk C h=>by
              rcases h with h|h|h
              .omega
              .omega
              .have :=aK W k (by simpa using h);omega)
             have K5:∀b,(Value.slice la y.1.ag.length lc).ownBlock=M b->wr.heap.size<=b:=λb s=>by have S:=x6 b s;have B:=k2.size;omega
             have K6:eS r (Q la y.1.ag.length lc) y.1.ag:=by have:=k6;rw[H4.out]at this⊢;exact DN this
             refine Nz.more k1 (cj ((aw.own n).1)) x0 x1 (λb S B h=>h ⟨B,S⟩) (λb h=>h) (λb s=>(n.lt b s).2) ?_ K4 K6 K5 ?_ (λ_ _=>zY K)
             .rcases z9.out with h|h
              .exact Yo h
              .exact Yp (Yp ⟨_,h,Vc⟩)
             .intro i' i2 K7 K8;obtain⟨i1,p0⟩:=zY h8;obtain⟨j,hj⟩:=zY h6;obtain⟨b,c,g1,g2,g3,g4,g5⟩:=K1 i1 i2 p0 K8;have hn:=e0.out;rw[K7,hj]at hn;have k8:=r0.out;rw[hj,p0]at k8;have X:=x8 s3;rw[z1.out]at X;have hz:=z5 g4;rw[z2.out,VF]at hz;have p1:∀{v:Yx} {l:List Nd},bh r (jA R r) v l->bh r (jA wr r) v l:=λh=>h.kp (Kp.refl no _) bW (λb s=>⟨cj s.1,s.2⟩)
              refine⟨b,c,(rs t).length,g3,p1 g1,p1 g2,λl e q tr=>?_⟩;rw[hz]at tr;rw[H4.out];rcases g5 with⟨g5,g6,g7⟩|⟨g5,p,g6,g7⟩
              .rw[g7];refine .az hn A k8 X g4 ?_ (λh=>g6 (by rw[h];rfl)) tr;rcases A.out with h|h|h<;>(rw[h]at g5⊢;exact g5)
              .have v:x=4:=Vp.1 g5;rw[v]at hn X⊢;exact .ife hn k8 X g4 g6 g7 tr
           change Hid _ at hrel;go_wp2;go_roundg g;case measure=>omega
           case rel=>exact hrel
         .have F:=HB.out;rw[Va A]at F;have p:x≠2:=λe=>A (Yo e)
          have t:x≠3:=λe=>A (Yp (Yo e))
          have v:x≠4:=λe=>A (Yp (Yp e))
          rw[show(x==2)=Yj by simpa using p]at q2;rw[show(x==3)=Yj by simpa using t]at q3;rw[show(x==4)=Yj by simpa using v]at q4;have k8:=Z (And.intro p (And.intro t v));clear HB A p t v;change Hid _ at F;go_wp2_with(at_builtin;refine bj _ U _ _ 191 U w.heap.size 309 j2 _ 6 96 underlying191 y7 y8 y9 z0 U Vb _ _ _ U (k7.alloc _) _ 1 [V Ys x.toNat,V Yr y.1.n,Q la y.1.ag.length lc,aV,aV,V O y.1.value] U ?e2 ?e1 ?e3 ?e4 ?e5 ?_);case e2=>exact D2 _ _ _ _ _ _ _ _
          case e1=>first |exact⟨U,U,U,U,U⟩|(intro u hu;simp at hu;rcases hu with rfl |rfl |rfl |rfl |rfl <;>rfl)
          case e3=>unfold maxLen;omega
          case e4=>omega
          case e5=>have:=s6.size;simp;omega
          intro r3 r c u z;change Hid _ at z;obtain⟨K2,K3,rfl⟩:=aA c;have J:Kp _ R r:=((Kp.refl _ R).alloc _).bS u (λk C=> Yo C);clear u;change Hid _ at J;replace c:=Z c;have r1:E.left y.2+1<=E.left d:=by
           have S:=(e9 (λj hj=>(W7.ok j hj).1)).left h8;omega
          have hrel:∀dd,dd=decide (x=0\/x=12\/x=14\/x=15)->Gk w pb E G ag h9 h1 T σ N g (Q K2 (h2+1) K3) (Q y4 (o.1.length+y.1.put.length) y5) (Yt dd) r/\g<=f:=by
           intro dd P;refine⟨⟨o.1++y.1.put,dd,y.2,h2+1,_,U,c,?_,?_,?_,?_,?_,?_,?_,?_,?_⟩,Y⟩
           .have S:=J.own W (λb s e=>Gi k7 W Vb b e s);have B:=D1 S (show w.heap.size<=w7.heap.size by have:=I.size;omega);simpa using B
           .exact H3.keep J (λk C e=>cj (aK n k e))
           .exact s6.comp J bW (λk C h=>cj (aK n k h))
           .simp only[Vn];omega
           .omega
           .omega
           .omega
           .rw[P];exact F
           .have K4:=MY.size;have r7:=I.size;have r8:=kX.size;have h3:Kp (λb=> ¬(b<wr.heap.size/\w.heap.size<=b)) wr R:=((D.then kX).then w4).comp s4 (λk C h=>by unfold one at h;omega) (λk C h=>cj D.size);have K5:∀b,(Value.slice la y.1.ag.length lc).ownBlock=M b->wr.heap.size<=b:=λb s=>by have S:=x6 b s;have B:=k2.size;omega
            have K6:eS R _ y.1.ag:=wX (wX k6 (kX.trans w4) (λ_ _ _ h=>h)) s4 (λhn b s e=>cj (IL k6 hn b s));refine Nz.more k1 (cj ((aw.own n).1)) h3 J (λb S B h=>h ⟨B,S⟩) (λb h=>h) (λb s=>(n.lt b s).2) ?_ K4 K6 K5 ?_ (λ_ _=>zY K)
            .rcases z.out with h|h
             .exact Yo h
             .exact Yp (Yp ⟨_,h,Vc⟩)
            .intro i' i2 K7 K8;obtain⟨j,hj⟩:=zY h6;have hn:=e0.out;rw[K7,hj]at hn;have k4:=p5.out;rw[hj,K8]at k4;refine⟨[],[],y.1.value,U,bh.nil,bh.nil,λl e q tr=>?_⟩;rw[P]at tr;exact .one hn ⟨w0,w1⟩ k8 C k4 h7 (x8 s3) tr
          change Hid _ at hrel;go_wp2;all_goals
           go_roundg g
           case measure=>omega
           case rel=>exact hrel _ (by
            symm
            first
             |exact(Rw x).symm
             |(rw[Xs];simp only[<-Vp];simp;simp at *;omega)
             |(rw[V7];simp only[<-Vp];simp;simp at *;omega))
       .have F:=w2.out;have c:y.1.ok=Yj\/o.2=false:=by
         cases S:y.1.ok
         .exact Yo U
         .cases B:o.2
          .exact Yp U
          .exact absurd ⟨S,B⟩ H1
        rw[Vi c,Vi (gu 3 d.place)]at F;have HB:=Z F;have Uz:=gu (σ:=y.2) 3 d.place;clear F w2 H1;rcases c with h7|s3
        .go_wp2_with fail;refine(dJ K9 _ _ Vb).bw ?_;rintro j⟨b,h⟩;rw[H0.out]at b;change Hid _ at b;go_wp2_with fail;refine(bz b).cJ ?_;go_wp2;go_ret2;rw[<-HB.out];exact⟨H,0,0,U,b,(I.then kX).trans h,nj.bad Uz⟩
        .cases h7:y.1.ok;all_goals
          go_wp2_with fail;refine(dJ K9 _ _ Vb).bw ?_;rintro j⟨b,h⟩;rw[H0.out]at b;change Hid _ at b;go_wp2_with fail;refine(bz b).cJ ?_;go_wp2;go_ret2;rw[<-HB.out];exact⟨H,0,0,U,b,(I.then kX).trans h,nj.bad Uz⟩
      .rw[P]at a;rw[Vi U]at a;have HB:=Z a;subst P;clear a L w0 w1;go_wp2_with fail;refine(bz h5).cJ ?_;go_wp2_with fail;refine Hn.bw ?_;rintro W3⟨B,k2⟩;change Hid _ at B;go_wp2_with fail;refine(bz B).cJ ?_;go_wp2_with fail;refine(uu _ x).cJ ?_;go_wp2_with fail;refine(dJ B _ _ Vb).bw ?_;rintro p3⟨k3,k5⟩;rw[e6.out]at k3;have H5:=Z k3;have Uz:=gu (σ:=m) 3 d.place;clear k3;exact zZ
def Kh:∀n,wY n:=by
 intro n;induction n using Nat.strongRecOn with
 |ind n ih=>grind[xI]
def dR.turn{w':Yw}{E E':PE}(h:dR X t E f)(d:E'.data=E.data)(c:E'.b=E.b)(k:Kp (one t) X w')(g:E'.en<=E.data.length)(hi:∀i,f= Yn i->i<=E'.en)
  (j:∀i e p,X.heap[t]?=M (E.dT i e p)->w'.heap[t]?=M (E'.dT i e p)):dR w' t E' f:=
 ⟨λi b=>⟨hi i b,j _ _ _ (h.ok i b).2⟩,λe a i=>by
  grind[bad],by rw[c,d];exact h.bytes.kp k (λb c e=>by have:=h.low b c;grind[one]),by rw[c,d];exact h.low,by grind[len],Ve⟩
structure dy(w:Yw)(pb mb base:Nat)(tv fv gv:Yx)(bI:Int)(funcs:List (List UInt8×List UInt8))(bO:List (UInt8×UInt8×Nat)):Prop where
 ne:mb≠pb
 az:w.heap[mb]?=M (Yl #[tv,fv,gv,V O bI] 149)
 ny:∃cells,w.ownsRow base 193 4 fv funcs.length cells/\ ∀(k:Nat) (x:List UInt8×List UInt8),funcs[k]?=M x-> ∃pv rv,cells[k*4]?=M pv/\cells[k*4+1]?=M rv/\aq w pv x.1/\rF pb pv/\aq w rv x.2/\rF pb rv/\(∀b,fv.ownBlock=M b->pv.ownBlock≠M b/\rv.ownBlock≠M b)/\(∀b,pv.ownBlock=M b\/rv.ownBlock=M b->base<=b/\b<w.heap.size)
 NA:rF pb fv
 fmb:fv.ownBlock≠M mb
 gat:jY w pb gv bO
 UA:∀b,fv.ownBlock=M b->gv.ownBlock≠M b
 B9:funcs.length<=16
 sA:∀x∈funcs,x.1.length<=8/\x.2.length<=1
 F4:bO.length<=8
theorem dy.kp{w':Yw}{gv:Yx}{a:List (List UInt8×List UInt8)}{c:List (UInt8×UInt8×Nat)}(h:dy X t N q u z gv y a c)(k:Kp (one t) X w'):dy w' t N q u z gv y a c:=by
 obtain⟨d,i,l⟩:=h.ny;refine⟨h.ne,k.az h.az h.ne,⟨d,k.own i (λb f e=>h.NA b f e),λj x m=>?_⟩,h.NA,h.fmb,h.gat.kp k,h.UA,h.B9,h.sA,h.F4⟩;obtain⟨n,o,p,r,s,e,v,g,w,A⟩:=l j x m;exact⟨n,o,p,r,s.one e k,e,v.one g k,g,w,λb f=>rq (A b f) k.size⟩
def dy.funcs{gv:Yx}{a:List (List UInt8×List UInt8)}{b:List (UInt8×UInt8×Nat)}(h:dy X t j N u z gv y a b):hZ X t z a:=by
 obtain⟨c,d,e⟩:=h.ny;refine⟨h.NA,c,aw.own d,λk x f=>?_⟩;grind
def dy.env{gv:Yx}{a:List (List UInt8×List UInt8)}{b:List (UInt8×UInt8×Nat)}(h:dy X k t j u z gv y a b)(d:e.m=ptr t)(f:aq X e.jG D)(g:rF k e.jG)(c:D.length<=1000):ni X k e ⟨D,a,b⟩:=
 ⟨f,g,⟨t,u,z,gv,y,d,h.ne,h.az,h.funcs,h.gat⟩,c,by grind[B9],λx i=>by grind[sA],by grind[F4]⟩
end
end Rf
section
open Go.RowKit
def asR{α:Type}(z:α):Except (Int×Int) (α×Nat)->α×Rf.PS
 | Yn x=>(x.1,Yn x.2)
 | Ym e=>(z,Ym e)
theorem I3  :∀(r i j:Nat),gK D y r i= Yn j->i<=j
 |0,_,_,h=>by cases h
 |r+1,i,j,h=>by
  rw[gK]at h;split at h
  .split at h
   .grind
   .have :=I3 r (i+1) j h;omega
  .cases h
def I4  :∀(r i j:Nat),gK D y r i= Yn j->j<=D.length
 |0,_,_,h=>by cases h
 |r+1,i,j,h=>by
  rw[gK]at h;split at h
  .split at h
   .grind
   .exact I4 r (i+1) j h
  .cases h
section
variable{E:Rf.PE}{i:Nat}(he:E.en<=E.data.length)
include he
def ja:(E.data.take E.en).length=E.en:=Ve
def qw(hi:i<=E.en):Rf.b8 E (Yn i)=asR 0 (fc (E.data.take E.en) i):=by
 unfold Rf.b8 fc;simp only;rw[ja he];by_cases h:E.en<=i
 .rw[Vi h,Va Y];have:i=E.en:=Y
  subst this;rfl
 .rw[Va h,Vi Y];show _=((E.data.take E.en).getD i 0,Except.ok (i+1))
  grind
def UH(c:Int):∀(r i:Nat) (a:List Bool),i<=E.en->Rf.gT E c r a (Yn i)=match gK (E.data.take E.en) c r i with
  | Yn j=>(a++(((E.data.take E.en).take j).drop i).flatMap Rf.bA,Yn j)
  | Ym e=>([],Ym e):=by
 intro r;induction r with
 |zero=>intro i a _;rfl
 |succ r ih=>
  intro i a hi;have b:=qw he hi;unfold fc at b;rw[ja he]at b;by_cases h:i<E.en
  .rw[Vi h]at b;have g:i<(E.data.take E.en).length:=Ve
   have d:gK (E.data.take E.en) c (r+1) i=if ((E.data.take E.en).getD i 0).toNat<128 then Yn (i+1)else gK (E.data.take E.en) c r (i+1):=by simp_all[gK]
   have f:Rf.gT E c (r+1) a (Yn i)=if 128<=(E.data.take E.en).getD i 0 then Rf.gT E c r (a++Rf.bA ((E.data.take E.en).getD i 0)) (Yn (i+1))else (a++Rf.bA ((E.data.take E.en).getD i 0),Yn (i+1)):=by
    rw[Rf.gT,b];rfl
   rw[f,d];by_cases e:((E.data.take E.en).getD i 0).toNat<128
   .rw[Va (by grind[UInt8.le_iff_toNat_le]),Vi e];grind[List.take_add_one]
   .rw[Vi (by grind[UInt8.le_iff_toNat_le]),Va e,ih (i+1) _ Y];grind[I3,List.drop_eq_getElem_cons]
  .rw[Va h]at b;have d:gK (E.data.take E.en) c (r+1) i= Ym (2,(i:Int)):=by simp_all[gK]
   rw[Rf.gT,b,d];rfl
def uG(a:Nat)(hi:i<=E.en):Rf.bH E a (Yn i)=asR [] (match dB (E.data.take E.en) a i with | Yn (g,j)=> Yn (g.flatMap Rf.bA,j)| Ym e=> Ym e):=by
 unfold Rf.bH dB;rw[show Rf.PS.place (Yn i)=(i:Int)from U,UH he _ a i [] hi];split
 .rename_i j b;simp only[b,V1];rfl
 .rename_i e b;simp only[b];rfl
end
theorem nE(a b:List Bool):Rf.bN (a++b)=Rf.bN a+2^a.length*Rf.bN b:=by
 induction a with
 |nil=>simp[Rf.bN]
 |cons x a ih=>
  grind[Rf.bN]
def KE:∀x:Fin 256,Rf.bN (Rf.bA (UInt8.ofNat x.val))=x.val%128:=by decide +kernel
theorem Af(c:UInt8):Rf.bN (Rf.bA c)=c.toNat%128:=by
 have:=KE ⟨c.toNat,c.toNat_lt⟩;simp_all
theorem dL(g:List UInt8):(g.flatMap Rf.bA).length=7*g.length:=by
 induction g with
 |nil=>rfl
 |cons c g ih=>grind[Rf.jn]
theorem xO(l:List Bool)(k:Nat)(g:k<=l.length):Rf.dD l k Yj=Yk↔Rf.bN l<2^k:=by
 have c:∀m:List Bool,m.all (λb=>b==Yj)=Yk↔Rf.bN m=0:=by
  intro m;induction m with
  |nil=>simp[Rf.bN]
  |cons b m ih=>
   simp only[List.all_cons,Vo,WI,Rf.bN];grind
 unfold Rf.dD;rw[c];have e:=(Xn k l).symm;have b:(l.take k).length=k:=Ve
 have d:Rf.bN l=Rf.bN (l.take k)+2^k*Rf.bN (l.drop k):=by
  grind[nE]
 have f:=Rf.gU (l.take k);rw[b]at f;rw[d];constructor
 .grind
 .intro h;rcases VM (Rf.bN (l.drop k))with a|a
  .exact a
  .have :2^k*1<=2^k*Rf.bN (l.drop k):=Xa _ a;omega
def qy(g:List UInt8):∀k,k<=g.length->k<=9->eo g k=Rf.bN ((g.take k).flatMap Rf.bA)
 |0,_,_=>rfl
 |k+1,e,f=>by
  have ih:=qy g k Y Y;have a:((g.take k).flatMap Rf.bA).length=7*k:=by grind[dL]
  have b:=Rf.gU ((g.take k).flatMap Rf.bA);rw[a]at b;have c:((g.getD k 0).toNat%128)*2^(7*k)<18446744073709551616:=by
   have d:2^(7*k)<=2^56:=V3 Vb Y;have h:((g.getD k 0).toNat%128)*2^(7*k)<=127*2^56:=Nat.mul_le_mul Y d;omega
  have d:g.take (k+1)=g.take k++[g.getD k 0]:=by
   grind[List.take_add_one]
  rw[eo,ih,VT c,d,List.flatMap_append,nE,a,Yf,Ww,<-Wx b];grind[Af]
def gF{α:Type}(r:α×Rf.PS)(m:Except (Int×Int) (α×Nat)):Prop:=match m with
 | Yn x=>r=(x.1,Yn x.2)
 | Ym e=>r.2= Ym e
theorem gF.ok{a:Type}{r:a×Rf.PS}{m:Except (Int×Int) (a×Nat)}(h:gF r m){x:a}(e:m= Yn (x,j)):r=(x,Yn j):=by rw[e]at h;exact h
theorem gF.err{a:Type}{r:a×Rf.PS}{m:Except (Int×Int) (a×Nat)}(h:gF r m){e:Int×Int}(b:m= Ym e):r.2= Ym e:=by rw[b]at h;exact h
def N9{a:Type}{z:a}{m:Except (Int×Int) (a×Nat)}{r:a×Rf.PS}(h:r=asR z m):gF r m:=by
 rw[h];cases m with
 |ok x=>rfl
 |error e=>rfl
def Ef  :∀(r i j:Nat),gK D y r i= Yn j->i<j/\j<=i+r/\(D.getD (j-1) 0).toNat<128
 |0,_,_,h=>by cases h
 |r+1,i,j,h=>by
  rw[gK]at h;split at h
  .split at h
   .grind
   .obtain⟨a,b,c⟩:=Ef r (i+1) j h;omega
  .cases h
def pC{g:List UInt8}(h:dB D m k= Yn (g,j)):0<g.length/\g.length<=m/\(g.getD (g.length-1) 0).toNat<128:=by
 unfold dB at h;split at h
 .rename_i f e;cases h;obtain⟨a,b,c⟩:=Ef m k j e;have d:=I4 m k j e;grind
 .cases h
theorem Oa(l:List UInt8)(h:0<l.length):l=l.take (l.length-1)++[l.getD (l.length-1) 0]:=by
 grind[List.take_append_getElem]
def Ah(a:0<D.length):Rf.bN (D.flatMap Rf.bA)=Rf.bN ((D.take (D.length-1)).flatMap Rf.bA)+2^(7*(D.length-1))*((D.getD (D.length-1) 0).toNat%128)/\Rf.bN ((D.take (D.length-1)).flatMap Rf.bA)<2^(7*(D.length-1)):=by
 have b:((D.take (D.length-1)).flatMap Rf.bA).length=7*(D.length-1):=by grind[dL]
 grind[Rf.gU,Oa,nE,Af]
section
variable{E:Rf.PE}{i:Nat}(he:E.en<=E.data.length)
include he
theorem Cq(c:Int)(hi:i<=E.en):gF (Rf.uM E c (Yn i)) (bp (E.data.take E.en) (c+1) i):=by
 refine N9 (z:=0) ?_;unfold Rf.uM bp UM;rw[uG he 5 hi];cases l:dB (E.data.take E.en) 5 i with
 |error e=>rfl
 |ok x=>
  obtain⟨g,j⟩:=x;obtain⟨m,g5,r⟩:=pC l;have d:=dL g;have k:=qy g g.length cQ Y;rw[Wh]at k;obtain⟨o,p⟩:=Ah m;have f:=Rf.gU (g.flatMap Rf.bA);rw[d]at f;have q:(7<(g.flatMap Rf.bA).length/\Rf.dD (g.flatMap Rf.bA) ((g.flatMap Rf.bA).length-7) Yj=Yk)↔iT g=true:=by
   rw[xO _ _ Y,d];unfold iT;simp only[Vo,Vx,WI];rw[show 7*g.length-7=7*(g.length-1)by omega,o];have n:g.getD (g.length-1) 0=0↔(g.getD (g.length-1) 0).toNat%128=0:=by
    rw[<-Vp];grind
   rw[n];constructor
   .rintro⟨a,b⟩;refine⟨Y,?_⟩;rcases VM ((g.getD (g.length-1) 0).toNat%128)with h|h
    .exact h
    .have :2^(7*(g.length-1))*1<=2^(7*(g.length-1))*((g.getD (g.length-1) 0).toNat%128):=Xa _ h;omega
   simp_all
  have h:(32<(g.flatMap Rf.bA).length/\Rf.dD (g.flatMap Rf.bA) 32 Yj=Yj)↔4294967295<Rf.bN (g.flatMap Rf.bA):=by
   by_cases a:32<(g.flatMap Rf.bA).length
   .have :=xO (g.flatMap Rf.bA) 32 Y;grind
   .have :2^(7*g.length)<=2^32:=V3 Vb Y;omega
  show(if Rf.bn (Except.ok j)=Yk then ((0:Nat),(Except.ok j:Rf.PS))else if (7<(g.flatMap Rf.bA).length/\Rf.dD (g.flatMap Rf.bA) ((g.flatMap Rf.bA).length-7) Yj=Yk)\/(32<(g.flatMap Rf.bA).length/\Rf.dD (g.flatMap Rf.bA) 32 Yj=Yj)\/c<(Rf.bN (g.flatMap Rf.bA):Int)then (0,Except.error (2,(i:Int)))else (Rf.bN (g.flatMap Rf.bA),Except.ok j))=
   asR 0 (match (if 4294967295<eo g g.length\/iT g=Yk then Except.error (2,(i:Int))else Except.ok (eo g g.length,j))with | Ym e=> Ym e| Yn (n,j)=>if c+1<=(n:Int)then Ym (2,(i:Int))else Yn (n,j))
  rw[Va (by simp[Rf.bn]),k];by_cases a:4294967295<Rf.bN (g.flatMap Rf.bA)\/iT g=Yk
  .rw[Vi a,Vi (by
    grind)]
   rfl
  .rw[Va a];simp only;by_cases b:c+1<=(Rf.bN (g.flatMap Rf.bA):Int)
   .rw[Vi b,Vi (Yp (Yp Y))];rfl
   .rw[Va b,Va (by
     grind)]
    rfl
end
def Eg:∀m:List Bool,m.all (λb=>b==Yk)=Yk↔Rf.bN m+1=2^m.length
 |[]=>by simp[Rf.bN]
 |b::m=>by
  have ih:=Eg m;have a:=Rf.gU m;simp only[List.all_cons,Vo,WI,Rf.bN,Wi,VO];grind
def Cs(l:List Bool)(a:k<=l.length):Rf.bN l=Rf.bN (l.take k)+2^k*Rf.bN (l.drop k)/\Rf.bN (l.take k)<2^k/\Rf.bN (l.drop k)<2^(l.length-k):=by
 grind[List.take_append_drop,Rf.gU,nE]
def Oi(l:List Bool)(c:0<l.length):Rf.eQ l=Yk↔2^(l.length-1)<=Rf.bN l:=by
 obtain⟨a,d,e⟩:=Cs l (k:=l.length-1) Y;have b:l.drop (l.length-1)=[l.getD (l.length-1) Yj]:=by
  grind[List.drop_eq_getElem_cons]
 rw[b]at a;unfold Rf.eQ;cases f:l.getD (l.length-1) Yj with
 |true=>
  simp_all[Rf.bN]
 |false=>
  simp_all[Rf.bN]
def uI(l:List Bool)(c:k<l.length):Rf.dD l k (Rf.eQ l)=Yk↔(if Rf.eQ l=Yk then 2^l.length-2^k<=Rf.bN l else Rf.bN l<2^k):=by
 obtain⟨a,d,f⟩:=Cs l (k:=k) Y;have b:2^l.length=2^k*2^(l.length-k):=by rw[<-V5];grind
 cases g:Rf.eQ l with
 |false=>rw[Va Vb];grind[xO]
 |true=>
  rw[Vi U];unfold Rf.dD;rw[Eg,Xk,a,b];generalize Rf.bN (l.drop k)=v at *;generalize Rf.bN (l.take k)=u at *;generalize 2^(l.length-k)=p at *;generalize 2^k=q at *;constructor
  .intro e;have:q*p=q*v+q:=Ve
   omega
  .intro e;rcases VE (v+1) p with h|h
   .have :q*(v+2)<=q*p:=Xa _ Y;grind
   .omega
def Ai{P:Prop}(h:P:=by
 apply List.ext_getElem
 .grind[Rf.rE]
 .intro q b c;have a:q<size:=Ve
  have:=Rf.IJ l size sign q a;grind):P:=h
def I7(l:List Bool)(size:Nat)(sign:Bool):Rf.bN (Rf.um l size sign)=if size<=l.length then Rf.bN l%2^size else Rf.bN l+(if sign then 2^size-2^l.length else 0):=by
 have a:∀n,Rf.bN (List.replicate n sign)=if sign then 2^n-1 else 0:=by
  intro n;induction n with
  |zero=>cases sign<;>rfl
  |succ n ih=>
   grind[Rf.bN]
 by_cases h:size<=l.length
 .have e:Rf.um l size sign=l.take size:=by
   exact Ai
  obtain⟨b,c,-⟩:=Cs l h;simp_all[VT]
 .have e:Rf.um l size sign=l++List.replicate (size-l.length) sign:=by
   exact Ai
  rw[Va h,e,nE,a];have b:2^size=2^l.length*2^(size-l.length):=by rw[<-V5];grind
  cases sign<;>simp_all[Nat.mul_sub]
def gv(g:List UInt8):Nat:=Rf.bN (g.flatMap Rf.bA)
def I8(g:List UInt8):gv g<2^(7*g.length):=by
 have:=Rf.gU (g.flatMap Rf.bA);rwa[dL]at this
def Ct{g:List UInt8}(a:0<g.length):gv g=gv (g.take (g.length-1))+2^(7*(g.length-1))*((g.getD (g.length-1) 0).toNat%128)/\gv (g.take (g.length-1))<2^(7*(g.length-1)):=Ah a
def UJ{g:List UInt8}(d:2<=g.length):∃a,a<2^(7*(g.length-2))/\gv g=a+2^(7*(g.length-2))*((g.getD (g.length-2) 0).toNat%128)+2^(7*(g.length-1))*((g.getD (g.length-1) 0).toNat%128):=by
 obtain⟨e,-⟩:=Ct (g:=g) Y;have b:(g.take (g.length-1)).length=g.length-1:=Vc
 obtain⟨c,a⟩:=Ct (g:=g.take (g.length-1)) Y;rw[b]at c a;refine⟨_,a,?_⟩;grind
def Cu(d:0<D.length)(c:D.length<=9):ct D=if 2^(7*D.length-1)<=gv D then (gv D:Int)-2^(7*D.length)else gv D:=by
 have b:=qy D D.length cQ c;rw[Wh]at b;have e:=I8 D;unfold ct;rw[b];show wrap64 ((gv D*2^jW D.length%18446744073709551616:Nat):Int)/2^jW D.length=_
 generalize gv D=a at *;generalize D.length=n at *;unfold jW wrap64;rcases(by omega :n=1\/n=2\/n=3\/n=4\/n=5\/n=6\/n=7\/n=8\/n=9)with rfl |rfl |rfl |rfl |rfl |rfl |rfl |rfl |rfl <;>simp only[Nat.reduceMul,Nat.reduceSub,Nat.reducePow,Int.reducePow]at * <;>split <;>omega
def Oj{g:List UInt8}(h:g.length=10):ct g=wrap64 ((gv g%18446744073709551616:Nat):Int):=by
 have d:=qy g 9 Y Y;obtain⟨a,b⟩:=Ct (g:=g) Y;rw[h]at a b;simp only[Nat.reduceSub,Nat.reduceMul]at a b;have c:eo g 9<2^63:=by rw[d];exact b
 have e:eo g 10=gv g%18446744073709551616:=by
  rw[eo,a];have e1:((g.getD 9 0).toNat%128)*2^(7*9)%18446744073709551616=2^63*((g.getD 9 0).toNat%128%2):=by
   omega
  rw[e1,Yf,<-Wx c,d];grind[gv]
 grind[ct,jW]
def Gz(x:UInt8):iU x=Yk↔x.toNat%128<64:=by
 have a:∀y:Fin 256,(iU (UInt8.ofNat y.val)=Yk)=(y.val%128<64):=by
  have:∀y:Fin 256,(iU (UInt8.ofNat y.val))=decide (y.val%128<64):=by decide +kernel
  grind
 have:=a ⟨x.toNat,x.toNat_lt⟩;grind[UInt8.ofNat_toNat]
def sW(a:0<D.length):Rf.eQ (D.flatMap Rf.bA)=Yk↔2^(7*D.length-1)<=gv D:=by
 have:=Oi (D.flatMap Rf.bA) (by grind[dL]);rwa[dL]at this
def qC{P:Prop}(h:P:=by
 rw[V4];simp only[WI,Vx];rw[<-Vp];rfl):P:=h
def Eh(g:0<D.length)(h:D.length<=10)(m:(D.getD (D.length-1) 0).toNat<128):
  (7<(D.flatMap Rf.bA).length/\Rf.dD (D.flatMap Rf.bA) ((D.flatMap Rf.bA).length-8) (Rf.eQ (D.flatMap Rf.bA))=Yk)↔bY D=true:=by
 unfold bY;by_cases i:2<=D.length
 .obtain⟨a,o,p⟩:=UJ i;have j:=sW g;have c:=uI (D.flatMap Rf.bA) (k:=(D.flatMap Rf.bA).length-8) (by grind[dL]);rw[c];simp only[dL]at *;change _↔_;have f:=Gz (D.getD (D.length-2) 0);have d:(D.getD (D.length-1) 0==0)=decide ((D.getD (D.length-1) 0).toNat=0):=by
   exact qC
  have e:(D.getD (D.length-1) 0==127)=decide ((D.getD (D.length-1) 0).toNat=127):=by
   exact qC
  rw[d,e];change(7<7*D.length/\(if Rf.eQ _=Yk then 2^(7*D.length)-2^(7*D.length-8)<=gv D else gv D<2^(7*D.length-8)))↔_;simp only[Vo,Wq,Vx,WD];rw[f,<-VG _,f];have s:(D.getD (D.length-2) 0).toNat%128<128:=Wn _ Vb;generalize(D.getD _ 0).toNat=q at *;generalize(D.getD _ 0).toNat%128=r at *;generalize gv D=b at *;generalize Rf.eQ _=l at *;generalize D.length=n at *;rcases(by omega :n=2\/n=3\/n=4\/n=5\/n=6\/n=7\/n=8\/n=9\/n=10)with rfl |rfl |rfl |rfl |rfl |rfl |rfl |rfl |rfl <;>simp only[Nat.reduceMul,Nat.reduceSub,Nat.reducePow]at * <;>cases l<;>simp at j⊢ <;>omega
 grind[dL]
def RI(c:0<D.length)(e:D.length<=5):(32<(D.flatMap Rf.bA).length/\Rf.dD (D.flatMap Rf.bA) (32-1) (Rf.eQ (D.flatMap Rf.bA))=Yj)↔ct D≠IntKind.i32.wrap (ct D):=by
 have f:=sW c;have b:=Cu c Y;have g:=I8 D;have d:IntKind.i32.wrap (ct D)=if 2147483648<=ct D%4294967296 then ct D%4294967296-4294967296 else ct D%4294967296:=by simp[IntKind.wrap,IntKind.signed,IntKind.bits]
 rw[d];by_cases h:D.length=5
 .have a:=uI (D.flatMap Rf.bA) (k:=32-1) (by grind[dL]);rw[<-VG,a];change(32<(D.flatMap Rf.bA).length/\ ¬(if Rf.eQ _=Yk then 2^(D.flatMap Rf.bA).length-2^(32-1)<=gv D else gv D<2^(32-1)))↔_;rw[dL,b,h];grind
 .rw[dL,b];generalize gv D=a at *;generalize D.length=n at *;rcases(by omega :n=1\/n=2\/n=3\/n=4)with rfl |rfl |rfl |rfl <;>simp only[Nat.reduceMul,Nat.reduceSub,Nat.reducePow,Int.reducePow]at * <;>split <;>(try split)<;>omega
def RJ(b:0<D.length)(c:D.length<=10)(d:(D.getD (D.length-1) 0).toNat<128):(64<(D.flatMap Rf.bA).length/\Rf.dD (D.flatMap Rf.bA) (64-1) (Rf.eQ (D.flatMap Rf.bA))=Yj)↔iV D=true:=by
 have e:=sW b;unfold iV;by_cases h:D.length=10
 .have a:=uI (D.flatMap Rf.bA) (k:=64-1) (by grind[dL]);obtain⟨f,g⟩:=Ct b;rw[h]at f g e d;rw[<-VG,a];change(64<(D.flatMap Rf.bA).length/\ ¬(if Rf.eQ _=Yk then 2^(D.flatMap Rf.bA).length-2^(64-1)<=gv D else gv D<2^(64-1)))↔_;have i:(D.getD 9 0==0)=decide ((D.getD 9 0).toNat=0):=by
   exact qC
  have j:(D.getD 9 0==127)=decide ((D.getD 9 0).toNat=127):=by
   exact qC
  grind[dL]
 .constructor
  .grind[dL]
  grind
def aba(c:0<D.length)(f:D.length<=5):Rf.bN (Rf.um (D.flatMap Rf.bA) 32 (Rf.eQ (D.flatMap Rf.bA)))=(ct D%4294967296).toNat:=by
 have d:=sW c;have b:=Cu c Y;have g:=I8 D;rw[I7,b];change(if 32<=(D.flatMap Rf.bA).length then gv D%2^32 else gv D+(if Rf.eQ _=Yk then 2^32-2^(D.flatMap Rf.bA).length else 0))=_;rw[dL];generalize gv D=a at *;generalize Rf.eQ _=e at *;generalize D.length=n at *;rcases(by omega :n=1\/n=2\/n=3\/n=4\/n=5)with rfl |rfl |rfl |rfl |rfl <;>simp only[Nat.reduceMul,Nat.reduceSub,Nat.reducePow,Int.reducePow,Nat.reduceLeDiff,VK,VL]at * <;>cases e<;>simp at d⊢ <;>split <;>omega
def abb(c:0<D.length)(d:D.length<=10):Rf.bN (Rf.um (D.flatMap Rf.bA) 64 (Rf.eQ (D.flatMap Rf.bA)))=(ct D%18446744073709551616).toNat:=by
 have e:=sW c;have g:=I8 D;rw[I7];change(if 64<=(D.flatMap Rf.bA).length then gv D%2^64 else gv D+(if Rf.eQ _=Yk then 2^64-2^(D.flatMap Rf.bA).length else 0))=_;rw[dL];by_cases h:D.length=10
 .rw[Oj h,h];unfold wrap64;generalize gv D=a at *;simp only[Nat.reduceMul,Nat.reducePow,Nat.reduceLeDiff,VK];omega
 .have b:=Cu c Y;rw[b];generalize gv D=a at *;generalize Rf.eQ _=f at *;generalize D.length=n at *;rcases(by omega :n=1\/n=2\/n=3\/n=4\/n=5\/n=6\/n=7\/n=8\/n=9)with rfl |rfl |rfl |rfl |rfl |rfl |rfl |rfl |rfl <;>simp only[Nat.reduceMul,Nat.reduceSub,Nat.reducePow,Int.reducePow,Nat.reduceLeDiff,VL]at * <;>cases f<;>simp at e⊢ <;>split <;>omega
section
variable{E:Rf.PE}{i:Nat}(he:E.en<=E.data.length)
include he
def Ol(hi:i<=E.en){e:Int×Int}(a:dB (E.data.take E.en) (if k=64 then 10 else 5) i= Ym e):(Rf.sM E k (Yn i)).2= Ym e:=by
 unfold Rf.sM;rw[uG he _ hi,a];rfl
def Ub{size:Nat}(hi:i<=E.en)(a:dB (E.data.take E.en) (if size=64 then 10 else 5) i= Yn (D,j)):
  Rf.sM E size (Yn i)=if (7<(D.flatMap Rf.bA).length/\Rf.dD (D.flatMap Rf.bA) ((D.flatMap Rf.bA).length-8) (Rf.eQ (D.flatMap Rf.bA))=Yk)\/(size<(D.flatMap Rf.bA).length/\Rf.dD (D.flatMap Rf.bA) (size-1) (Rf.eQ (D.flatMap Rf.bA))=Yj)then (0,Except.error (2,(i:Int)))else (Rf.bN (Rf.um (D.flatMap Rf.bA) size (Rf.eQ (D.flatMap Rf.bA))),Except.ok j):=by
 unfold Rf.sM;rw[uG he _ hi,a];rfl
def Om(hi:i<=E.en):gF (Rf.sM E 32 (.ok i)) (eh (E.data.take E.en) 2 i):=by
 have k:eh (E.data.take E.en) 2 i=match qY (E.data.take E.en) i with |.error e=>.error e|.ok (n,j)=>.ok ((n%4294967296).toNat,j):=by
  rfl
 cases d:dB (E.data.take E.en) 5 i with
 |error e=>
  have a:qY (E.data.take E.en) i=.error e:=by grind[qY]
  rw[k,a];exact Ol he hi d
 |ok x=>
  obtain⟨g,j⟩:=x;obtain⟨e,g5,m⟩:=pC d;have l:=Eh e Y m;have b:=RI e g5;have f:=aba e g5;rw[k,Ub he (size:=32) hi d,f];have a:qY (E.data.take E.en) i=if ct g≠IntKind.i32.wrap (ct g)\/bY g=true then .error (2,i)else .ok (ct g,j):=by simp_all[qY]
  generalize ct g=S at *;by_cases c:S≠IntKind.i32.wrap S\/bY g=true
  .rw[Vi (c.elim (λh=>.inr (b.2 h)) (λh=>.inl (l.2 h)))];rw[Vi c]at a;rw[a];rfl
  .rw[Va (λh=>c (h.elim (λh=>.inr (l.1 h)) (λh=>.inl (b.1 h))))];rw[Va c]at a;rw[a];rfl
def On(hi:i<=E.en):gF (Rf.sM E 64 (.ok i)) (eh (E.data.take E.en) 3 i):=by
 have k:eh (E.data.take E.en) 3 i=match qZ (E.data.take E.en) i with |.error e=>.error e|.ok (n,j)=>.ok ((n%18446744073709551616).toNat,j):=by
  rfl
 cases d:dB (E.data.take E.en) 10 i with
 |error e=>
  have a:qZ (E.data.take E.en) i=.error e:=by grind[qZ]
  rw[k,a];exact Ol he hi d
 |ok x=>
  obtain⟨g,j⟩:=x;obtain⟨e,g5,l⟩:=pC d;have m:=Eh e g5 l;have b:=RJ e g5 l;have f:=abb e g5;rw[k,Ub he (size:=64) hi d,f];have a:qZ (E.data.take E.en) i=if iV g=true\/bY g=true then .error (2,i)else .ok (ct g,j):=by grind[qZ]
  generalize ct g=S at *;by_cases c:iV g=true\/bY g=true
  .rw[Vi (c.elim (λh=>.inr (b.2 h)) (λh=>.inl (m.2 h)))];rw[Vi c]at a;rw[a];rfl
  .rw[Va (λh=>c (h.elim (λh=>.inr (m.1 h)) (λh=>.inl (b.1 h))))];rw[Va c]at a;rw[a];rfl
end
end
section
open Go.RowKit
open Rf (ptr bh)
def tI(w:Yw)(ro:Nat->Prop)(mb:Nat)(f:dH)(B:List (List Nd)):Prop:=
 ro mb/\ ∃tv fv gv pg,w.heap[mb]?=M (Yl #[tv,fv,gv,pg] 149)/\ ∃ad cap,fv= Q ad f.funcs.length cap/\f.funcs.length<=cap/\ ∀n,n<f.funcs.length-> ∃a pv rv lv bv ll,ad=M ⟨a,0,H⟩/\ro a/\
  w.cell? ⟨a,n*4,H⟩=M pv/\w.cell? ⟨a,n*4+1,H⟩=M rv/\w.cell? ⟨a,n*4+2,H⟩=M lv/\w.cell? ⟨a,n*4+3,H⟩=M bv/\
  aq w pv (f.funcs.getD n du).typ.1/\nS ro pv/\aq w rv (f.funcs.getD n du).typ.2/\nS ro rv/\aq w lv ll/\nS ro lv/\ll.length=(f.funcs.getD n du).aZ/\bh w ro bv (B.getD n [])
theorem tI.kp{w':Yw}{ro:Nat->Prop}{f:dH}{B:List (List Nd)}(h:tI X ro t f B)(k:Kp (iM ro) X w'):tI w' ro t f B:=by
 obtain⟨q,s,u,gv,w,e,x,g,i,y,z⟩:=h;refine⟨q,s,u,gv,w,k.az e (λh=>h q),x,g,i,y,λn b=>?_⟩;obtain⟨a,A,C,D,E,F,e1,e2,e3,e4,e5,G,I,r,J,c,j,d,m,o⟩:=z n b;have p:∀{v:Yx} {l:List UInt8},aq X v l->nS ro v->aq w' v l:=λe i=>e.kp k (λb l h=>h (i b l))
 exact⟨a,A,C,D,E,F,e1,e2,k.cell e3 (λh=>h e2),k.cell e4 (λh=>h e2),k.cell e5 (λh=>h e2),k.cell G (λh=>h e2),p I r,r,p J c,c,p j d,d,m,o.kp k (λb l h=>h l) (λ_ h=>h)⟩
structure ew where
 rb:Nat
 xb:Nat
 sb:Nat
 mb:Nat
 F:Nat
 ro:Nat->Prop
 f:dH
 B:List (List Nd)
structure Rs where
 bg:List Int
 aW:List Int
 used:Nat
 t:Nat
 d:Nat
 mem:List UInt8
 gl:List Int
 st:List (Int×Int)
def wP(E:ew)(fb:Nat)(s:Rs)(mv gv kv vv lv sv:Yx):Nat->jr
 |0=>.dT E.rb #[ptr E.xb,V O E.F,V O s.used,V O s.t,V O s.d] 242
 |1=>.dT E.xb #[ptr E.mb,ptr E.sb,mv,gv] 196
 |2=>.dT E.sb #[kv,vv] 96
 |3=>.row 5 mv (aP s.mem)
 |4=>.row 38 gv (ay s.gl)
 |5=>.row 2 kv (aQ (s.st.map (·.1)))
 |6=>.row 2 vv (aQ (s.st.map (·.2)))
 |7=>.dT fb #[lv,sv] 281
 |8=>.row 38 lv (ay s.bg)
 |9=>.row 38 sv (ay s.aW)
 |_=>.none
structure ee(E:ew)(lo:Nat->Prop)(w:Yw)(fb:Nat)(s:Rs):Prop where
 mod:tI w E.ro E.mb E.f E.B
 mW:∀b,E.ro b->lo b
 hp:∃mv gv kv vv lv sv,Hp lo w (wP E fb s mv gv kv vv lv sv)
section
variable{E:ew}{lo:Nat->Prop}{w w':World}{fb:Nat}{s s':Rs}
theorem tI.low{f:dH}{B:List (List Nd)}(h:tI w P t f B)(a:∀b,P b->lo b)(k:Kp (iM lo) w w'):tI w' P t f B:=h.kp (k.mono (λb _ c d=>c (a b d)))
theorem ee.of(h:ee E lo w fb s){I:Nat->jr}(a:Hp lo w' I/\Kp (iM lo) w w'){mv gv kv vv lv sv:Yx}(e:∀i,I i=wP E fb s' mv gv kv vv lv sv i):ee E lo w' fb s'/\Kp (iM lo) w w':=
 ⟨⟨h.mod.low h.mW a.2,h.mW,mv,gv,kv,vv,lv,sv,by rw[<-(funext e:I=_)];exact a.1⟩,a.2⟩
def ee.quiet(h:ee E lo w fb s)(k:Kp no w w'):ee E lo w' fb s:=by
 obtain⟨a,b,c,gv,d,e,f,g,i⟩:=h;exact⟨a.kp k.any,b,c,gv,d,e,f,g,i.quiet k⟩
def ee.guard(h:ee E lo w fb s)(k:Kp no w w')(P:Nat->Prop)(a:∀b,P b->w.heap.size<=b/\b<w'.heap.size):ee E (λb=>lo b\/P b) w' fb s:=by
 obtain⟨c,d,e,gv,f,g,i,j,l⟩:=h;exact⟨c.kp k.any,λb m=> Yo (d b m),e,gv,f,g,i,j,l.guard k P a⟩
def ee.free(h:ee E (λb=>lo b\/P b) w fb s)(a:∀b,E.ro b->lo b):ee E lo w fb s:=by
 obtain⟨b,-,c,gv,d,e,f,g,i⟩:=h;exact⟨b,a,c,gv,d,e,f,g,i.free⟩
def uU{P:Prop}(h:P:=by
 rcases i with _|_|_|_|_|_|_|_|_|_|i
 all_goals first |rfl |(show jr.row _ _ _=jr.row _ _ _;rw[e])):P:=h
def ee.frame(h:ee E lo w fb s):∃lv sv,w.heap[fb]?=M (Yl #[lv,sv] 281)/\(∃c a,lv= Q c s.bg.length a/\s.bg.length<=a)/\(∃c a,sv= Q c s.aW.length a/\s.aW.length<=a)/\M fb≠lv.ownBlock/\M fb≠sv.ownBlock/\
  w.ownsRow 0 38 1 lv s.bg.length (ay s.bg)/\w.ownsRow 0 38 1 sv s.aW.length (ay s.aW)/\
  (∀W w5 c l,Kp no w W->w5.ownsRow 0 38 1 c l.length (ay l)->W.grownBy w5 sv.ownBlock->(c.ownBlock=sv.ownBlock\/c.ownBlock=M W.heap.size)->ee E lo (w5.setCell ⟨fb,1,H⟩ c) fb {s with aW:=l}/\Kp (iM lo) w (w5.setCell ⟨fb,1,H⟩ c))/\
  (∀W w5 c l,Kp no w W->w5.ownsRow 0 38 1 c l.length (ay l)->W.grownBy w5 lv.ownBlock->(c.ownBlock=lv.ownBlock\/c.ownBlock=M W.heap.size)->ee E lo (w5.setCell ⟨fb,0,H⟩ c) fb {s with bg:=l}/\Kp (iM lo) w (w5.setCell ⟨fb,0,H⟩ c))/\
  (∀W a k v,Kp no w W->lv.ownBlock=M a->ee E lo (W.setCell ⟨a,k,H⟩ (V Yr v)) fb {s with bg:=s.bg.set k v}/\Kp (iM lo) w (W.setCell ⟨a,k,H⟩ (V Yr v))):=by
 have j:=h;obtain⟨-,-,mv,gv,kv,vv,lv,sv,h⟩:=h;have p:=h.dY 7;have m:=h.dY 8;have n:=h.dY 9;simp only[wP,jr.At,jt]at p m n;refine⟨lv,sv,p,(aw.own m).aJ,(aw.own n).aJ,λe=>?_,λe=>?_,m,n,λW w5 c l d o f g=>?_,λW w5 c l d o f g=>?_,λW a k v d c=>?_⟩
 .have :=h.ap 7 8 fb U e.symm;cases this
 .have :=h.ap 7 9 fb U e.symm;cases this
 .exact j.of (h.grow (W:=W) (w5:=w5) (ys:=ay l) 9 7 Vb U U d (jt l).symm o (nu f g).1 (nu f g).2 1) (λi=>by rcases i with _|_|_|_|_|_|_|_|_|_|i<;>rfl)
 .exact j.of (h.grow (W:=W) (w5:=w5) (ys:=ay l) 8 7 Vb U U d (jt l).symm o (nu f g).1 (nu f g).2 0) (λi=>by rcases i with _|_|_|_|_|_|_|_|_|_|i<;>rfl)
 .obtain⟨f,g⟩:=(h.quiet d).cell 8 (b:=a) U c k (V Yr v);refine j.of ⟨f,d.any.trans g⟩ (mv:=mv) (gv:=gv) (kv:=kv) (vv:=vv) (lv:=lv) (sv:=sv) (λi=>?_);have e:ay (s.bg.set k v)=(ay s.bg).set k (V Yr v):=by simp_all[ay]
  exact uU
theorem G7(h:w.ownsRow k T 1 u j F):w.ownsRow 0 T 1 u j F:=by
 obtain⟨c,d|⟨g,a,b,e,i,f⟩⟩:=h
 .exact⟨c,Yo d⟩
 .exact⟨c,Yp ⟨g,a,b,e,VB _,f⟩⟩
def ee.store(h:ee E lo w fb s):∃kv vv,w.heap[E.sb]?=M (Yl #[kv,vv] 96)/\w.ownsRow 0 2 1 kv s.st.length (aQ (s.st.map (·.1)))/\w.ownsRow 0 2 1 vv s.st.length (aQ (s.st.map (·.2)))/\M E.sb≠kv.ownBlock/\M E.sb≠vv.ownBlock/\
  (∀W a n k v i,Kp no w W->vv.ownBlock=M a->s.st[n]?=M (k,i)->ee E lo (W.setCell ⟨a,n,H⟩ (V O v)) fb {s with st:=s.st.set n (k,v)}/\Kp (iM lo) w (W.setCell ⟨a,n,H⟩ (V O v)))/\
  (∀g d f c,Kp (one E.sb) w g->g.heap[E.sb]?=M (Yl #[d,f] 96)->g.ownsRow w.heap.size 2 1 d c.length (aQ (c.map (·.1)))->g.ownsRow w.heap.size 2 1 f c.length (aQ (c.map (·.2)))->(∀b,d.ownBlock=M b->f.ownBlock≠M b)->ee E lo g fb {s with st:=c}/\Kp (iM lo) w g):=by
 have p:=h;obtain⟨-,-,mv,gv,kv,vv,lv,sv,h⟩:=h;have l:=h.dY 2;have q:=h.dY 5;have r:=h.dY 6;simp only[wP,jr.At,jq,VH]at l q r;refine⟨kv,vv,l,q,r,λe=>?_,λe=>?_,λW a n k v i j x m=>?_,λg d f c t y m o u=>?_⟩
 .have :=h.ap 2 5 E.sb U e.symm;cases this
 .have :=h.ap 2 6 E.sb U e.symm;cases this
 .obtain⟨z,l⟩:=(h.quiet j).cell 6 (b:=a) U x n (V O v);refine p.of ⟨z,j.any.trans l⟩ (mv:=mv) (gv:=gv) (kv:=kv) (vv:=vv) (lv:=lv) (sv:=sv) (λi=>?_);have e1:aQ ((s.st.set n (k,v)).map (·.2))=(aQ (s.st.map (·.2))).set n (V O v):=by simp_all[aQ]
  have e2:(s.st.set n (k,v)).map (·.1)=s.st.map (·.1):=by
   rw[Xf];refine Xz (λj=>?_);grind
  rcases i with _|_|_|_|_|_|_|_|_|_|i
  all_goals first |rfl |(show jr.row _ _ _=jr.row _ _ _;grind)
 .have a:Hp lo g (wP E fb {s with st:=c} mv gv d f lv sv):=h.yU (λi=>i=2\/i=5\/i=6) (t.mono (λb _ (e:b=E.sb)=>⟨2,Yo U,by rw[e];rfl⟩)) (λi hi=>by
    rcases i with _|_|_|_|_|_|_|_|_|_|i
    all_goals first |rfl |omega)
   (λi hi=>by
    rcases hi with rfl |rfl |rfl
    .exact y
    .show World.ownsRow _ _ _ _ _ _ _;grind[jq,G7]
    .show World.ownsRow _ _ _ _ _ _ _;grind[jq,G7])
   (λi b hi e=>by
    rcases hi with rfl |rfl |rfl
    .exact Yo e
    .exact Yp (h.fresh (aK m b e))
    .exact Yp (h.fresh (aK o b e)))
   (λi j b hi c e1 e2=>by
    have d:=au l;rcases hi with rfl |rfl |rfl <;>rcases c with rfl |rfl |rfl
    .rfl
    .cases e1;have:=aK m _ e2;omega
    .cases e1;have:=aK o _ e2;omega
    .cases e2;have:=aK m _ e1;omega
    .rfl
    .exact absurd e2 (u b e1)
    .cases e2;have:=aK o _ e1;omega
    .exact absurd e1 (u b e2)
    .rfl)
  exact p.of ⟨a,t.mono (λb _ (e:b=E.sb) c=>h.low 2 E.sb U (e▸c))⟩ (λ_=>rfl)
def ee.sat(h:ee E lo w fb s):Rp w E.sb s.st:=by
 obtain⟨a,b,c,d,e,-⟩:=h.store;exact⟨a,b,c,aw.own d,aw.own e⟩
end
section
variable{E:ew}{lo:Nat->Prop}{w w':World}{fb:Nat}{s:Rs}
def ee.run(h:ee E lo w fb s):w.heap[E.rb]?=M (Yl #[ptr E.xb,V O E.F,V O s.used,V O s.t,V O s.d] 242)/\
  (∀W (n:Nat),Kp no w W->ee E lo (W.setCell ⟨E.rb,2,H⟩ (V O n)) fb {s with used:=n}/\Kp (iM lo) w (W.setCell ⟨E.rb,2,H⟩ (V O n)))/\
  (∀W (n:Nat),Kp no w W->ee E lo (W.setCell ⟨E.rb,3,H⟩ (V O n)) fb {s with t:=n}/\Kp (iM lo) w (W.setCell ⟨E.rb,3,H⟩ (V O n)))/\
  (∀W (n:Nat),Kp no w W->ee E lo (W.setCell ⟨E.rb,4,H⟩ (V O n)) fb {s with d:=n}/\Kp (iM lo) w (W.setCell ⟨E.rb,4,H⟩ (V O n))):=by
 have b:=h;obtain⟨-,-,mv,gv,kv,vv,lv,sv,h⟩:=h;refine⟨h.dY 0,λW n a=>?_,λW n a=>?_,λW n a=>?_⟩;all_goals
  obtain⟨c,e⟩:=(h.quiet a).fld 0 U _ (V O n);exact b.of ⟨c,a.any.trans e⟩ (mv:=mv) (gv:=gv) (kv:=kv) (vv:=vv) (lv:=lv) (sv:=sv) (λi=>by rcases i with _|_|_|_|_|_|_|_|_|_|i<;>rfl)
def ee.inst(h:ee E lo w fb s):∃mv gv,w.heap[E.xb]?=M (Yl #[ptr E.mb,ptr E.sb,mv,gv] 196)/\w.ownsRow 0 5 1 mv s.mem.length (aP s.mem)/\w.ownsRow 0 38 1 gv s.gl.length (ay s.gl)/\M E.xb≠mv.ownBlock/\M E.xb≠gv.ownBlock/\
  (∀W a k (c:UInt8),Kp no w W->mv.ownBlock=M a->ee E lo (W.setCell ⟨a,k,H⟩ (V Ys c.toNat)) fb {s with mem:=s.mem.set k c}/\Kp (iM lo) w (W.setCell ⟨a,k,H⟩ (V Ys c.toNat)))/\
  (∀W a k v,Kp no w W->gv.ownBlock=M a->ee E lo (W.setCell ⟨a,k,H⟩ (V Yr v)) fb {s with gl:=s.gl.set k v}/\Kp (iM lo) w (W.setCell ⟨a,k,H⟩ (V Yr v)))/\
  (∀w5 g l,Kp no w w5->w5.ownsRow w.heap.size 5 1 g l.length (aP l)->ee E lo (w5.setCell ⟨E.xb,2,H⟩ g) fb {s with mem:=l}/\Kp (iM lo) w (w5.setCell ⟨E.xb,2,H⟩ g)):=by
 have j:=h;obtain⟨-,-,mv,gv,kv,vv,lv,sv,h⟩:=h;have o:=h.dY 3;have p:=h.dY 4;have d:∀l:List UInt8,(aP l).length=l.length:=λl=>by simp[aP]
 simp only[wP,jr.At,jt,d]at o p;refine⟨mv,gv,h.dY 1,o,p,λe=>?_,λe=>?_,λW a k c f m=>?_,λW a k v f m=>?_,λw5 g l r q=>?_⟩
 .have :=h.ap 1 3 E.xb U e.symm;cases this
 .have :=h.ap 1 4 E.xb U e.symm;cases this
 .obtain⟨g,n⟩:=(h.quiet f).cell 3 (b:=a) U m k (V Ys c.toNat);refine j.of ⟨g,f.any.trans n⟩ (mv:=mv) (gv:=gv) (kv:=kv) (vv:=vv) (lv:=lv) (sv:=sv) (λi=>?_);have e:aP (s.mem.set k c)=(aP s.mem).set k (V Ys c.toNat):=by simp_all[aP]
  exact uU
 .obtain⟨g,n⟩:=(h.quiet f).cell 4 (b:=a) U m k (V Yr v);refine j.of ⟨g,f.any.trans n⟩ (mv:=mv) (gv:=gv) (kv:=kv) (vv:=vv) (lv:=lv) (sv:=sv) (λi=>?_);have e:ay (s.gl.set k v)=(ay s.gl).set k (V Yr v):=by simp_all[ay]
  exact uU
 .refine j.of (h.grow (W:=w) (w5:=w5) (ys:=aP l) 3 1 Vb U U iR (d l).symm (G7 q) r.any (λb a=> Yp (aK q b a)) 2) (λi=>by rcases i with _|_|_|_|_|_|_|_|_|_|i<;>rfl)
theorem ee.ne(h:ee E lo w fb s):E.rb≠fb/\E.xb≠fb/\E.sb≠fb:=by
 obtain⟨-,-,a,gv,b,c,d,f,h⟩:=h;exact⟨λe=>(by have:=h.ap 0 7 E.rb U (by rw[e];rfl);cases this),λe=>(by have:=h.ap 1 7 E.xb U (by rw[e];rfl);cases this),λe=>(by have:=h.ap 2 7 E.sb U (by rw[e];rfl);cases this)⟩
end
def kN(E:ew)(s:Rs)(mv gv kv vv:Yx):Nat->jr:=λi=>if i<7 then wP E 0 s mv gv kv vv mv mv i else .none
structure kU(E:ew)(lo:Nat->Prop)(w:Yw)(s:Rs):Prop where
 mod:tI w E.ro E.mb E.f E.B
 mW:∀b,E.ro b->lo b
 hp:∃mv gv kv vv,Hp lo w (kN E s mv gv kv vv)
def Ui(h:P 0/\P 1/\P 2/\P 3/\P 4/\P 5/\P 6):∀i,i<7->P i:=λi hi=>by
 grind
def ten(h:P 7/\P 8/\P 9)(a:∀i,P (i+10)):∀i,¬i<7->P i:=λi hi=>by
 rcases i with _|_|_|_|_|_|_|_|_|_|i<;>grind
section
variable{E:ew}{lo:Nat->Prop}{w w':World}{fb:Nat}{s s':Rs}
theorem tK{E:ew}{fb:Nat}{s:Rs}{gv vv lv sv lv' sv':Yx}{O:List Int}:∀i,i<7->wP E fb {s with bg:=L,aW:=O} u gv z vv lv sv i=wP E k s u gv z vv lv' sv' i:=Ui ⟨U,U,U,U,U,U,U⟩
def AW{P:Prop}(h:P:=by
 obtain⟨a,b,c,gv,d,e,f⟩:=h;exact⟨a.kp k.any,b,c,gv,d,e,f.quiet k⟩):P:=h
def kU.quiet(h:kU E lo w s)(k:Kp no w w'):kU E lo w' s:=by
 exact AW
def AX{P:Prop}(h:P:=by
 obtain⟨a,c,d,gv,e,f,g⟩:=h;exact⟨a.kp k.any,λb i=> Yo (c b i),d,gv,e,f,g.guard k P hP⟩):P:=h
def kU.guard(h:kU E lo w s)(k:Kp no w w')(P:Nat->Prop)(hP:∀b,P b->w.heap.size<=b/\b<w'.heap.size):kU E (λb=>lo b\/P b) w' s:=by
 exact AX
def kU.free(h:kU E (λb=>lo b\/P b) w s)(a:∀b,E.ro b->lo b):kU E lo w s:=by
 obtain⟨b,-,c,gv,d,e,f⟩:=h;exact⟨b,a,c,gv,d,e,f.free⟩
def AY{P:Prop}(h:P:=by
 refine⟨h1,h2,mv,gv,kv,vv,λi=>?_,λi j b e1 e2=>?_,λi b e=>?_,h.zV⟩
 .rcases hI i with e|e<;>rw[e]
  .exact h.dY i
  .trivial
 .rcases hI i with e|e<;>rw[e]at e1
  .rcases hI j with a|a<;>rw[a]at e2
   .exact h.ap _ _ _ e1 e2
   .cases e2
  .cases e1
 .rcases hI i with a|a<;>rw[a]at e
  .exact h.low _ _ e
  .cases e):P:=h
def ee.AM(h:ee E lo w fb s):kU E lo w s:=by
 obtain⟨h1,h2,mv,gv,kv,vv,a,b,h⟩:=h;have hI:∀i,kN E s mv gv kv vv i=wP E fb s mv gv kv vv a b i\/kN E s mv gv kv vv i=.none:=λi=>by
  by_cases hi:i<7
  .left;unfold kN;rw[Vi hi];exact tK (s:=s) (L:=s.bg) (O:=s.aW) i hi
  simp_all[kN,Va]
 exact AY
def kU.enter(h:kU E lo w s)(k:Kp no w w')(o:w.heap.size<=fb)(g:w'.heap[fb]?=M (Yl #[Q H 0 0,Q H 0 0] 281)):ee E lo w' fb {s with bg:=[],aW:=[]}:=by
 obtain⟨l,m,c,gv,d,f,h⟩:=h;have n:∀i,¬i<7-> ∀b,(wP E fb {s with bg:=[],aW:=[]} c gv d f (Q H 0 0) (Q H 0 0) i).az=M b->i=7/\b=fb:=ten ⟨λb e=>⟨U,(Vr e).symm⟩,λb e=>(by cases e),λb e=>(by cases e)⟩ (λi b e=>by cases e);refine⟨l.kp k.any,m,c,gv,d,f,Q H 0 0,Q H 0 0,h.yU (λi=> ¬i<7) k.any (λi hi=>?_) (ten ⟨g,ic,ic⟩ (λ_=>trivial)) (λi b hi e=> Yp (h.fresh Ve)) (λi j b hi a e1 e2=>Ve)⟩;have a:=Classical.not_not.1 hi;unfold kN;rw[Vi a];grind[tK]
def ee.abD(h:ee E lo w fb s){lv sv:Yx}(z:w.heap[fb]?=M (Yl #[lv,sv] 281)):kU E (λb=>lo b\/(b=fb\/lv.ownBlock=M b\/sv.ownBlock=M b)) w s/\
  ∀w' s',kU E (λb=>lo b\/(b=fb\/lv.ownBlock=M b\/sv.ownBlock=M b)) w' s'->Kp (iM (λb=>lo b\/(b=fb\/lv.ownBlock=M b\/sv.ownBlock=M b))) w w'->ee E lo w' fb {s' with bg:=s.bg,aW:=s.aW}:=by
 obtain⟨A,y,p,gv,q,r,B,C,h⟩:=h;have v:=h.dY 7;simp only[wP,jr.At]at v;rw[z]at v;cases v;have x:∀i,¬i<7-> ∀b,(wP E fb s p gv q r lv sv i).az=M b->(b=fb\/lv.ownBlock=M b\/sv.ownBlock=M b):=ten ⟨λb e=> Yo (Vr e).symm,λb e=> Yp (Yo e),λb e=> Yp (Yp e)⟩ (λi b e=>by cases e);have t:∀b,(b=fb\/lv.ownBlock=M b\/sv.ownBlock=M b)-> ∃i,¬i<7/\(wP E fb s p gv q r lv sv i).az=M b:=λb u=>by
  rcases u with e|e|e
  .exact⟨7,Vb,by rw[e];rfl⟩
  .exact⟨8,Vb,e⟩
  .exact⟨9,Vb,e⟩
 refine⟨?_,λw' s' D k=>?_⟩
 .have c:∀i b,(kN E s p gv q r i).az=M b->i<7/\(wP E fb s p gv q r lv sv i).az=M b:=λi b e=>by
   by_cases hi:i<7
   .unfold kN at e;rw[Vi hi]at e;exact⟨hi,by rw[<-e];exact Vy jr.az (tK (s:=s) (L:=s.bg) (O:=s.aW) i hi)⟩
   .unfold kN at e;rw[Va hi]at e;cases e
  refine⟨A,λb u=> Yo (y b u),p,gv,q,r,⟨λi=>?_,λi j b e1 e2=>h.ap _ _ _ (c i b e1).2 (c j b e2).2,λi b e a=>?_,λb a=>?_⟩⟩
  .by_cases hi:i<7
   .have :=h.dY i;unfold kN;rw[Vi hi,<-tK (s:=s) (L:=s.bg) (O:=s.aW) (fb:=fb) (lv:=lv) (sv:=sv) i hi];exact this
   .unfold kN;rw[Va hi];trivial
  .obtain⟨hi,d⟩:=c i b e;rcases a with a|a
   .exact h.low _ _ d a
   .obtain⟨j,o,ej⟩:=t b a;exact o (h.ap _ _ _ d ej▸hi)
  .rcases a with a|a
   .exact h.zV b a
   .obtain⟨j,o,ej⟩:=t b a;exact(h.dY j).lt ej
 .obtain⟨F,g2,f,l,m,n,g⟩:=D;have c:∀i,i<7->wP E fb {s' with bg:=s.bg,aW:=s.aW} f l m n lv sv i=kN E s' f l m n i:=λi hi=>by
   unfold kN;rw[Vi hi];grind[tK]
  have d:∀i,¬i<7->wP E fb {s' with bg:=s.bg,aW:=s.aW} f l m n lv sv i=wP E fb s p gv q r lv sv i:=ten ⟨U,U,U⟩ (λ_=>rfl);refine⟨F,y,f,l,m,n,lv,sv,⟨λi=>?_,λi j b e1 e2=>?_,λi b e a=>?_,λb a=>Vm (h.zV b a) k.size⟩⟩
  .by_cases hi:i<7
   .rw[c i hi];exact g.dY i
   .rw[d i hi];exact(h.dY i).kp k (λb u D=>D (Yp (x i hi b u)))
  .by_cases hi:i<7<;>by_cases o:j<7
   .rw[c i hi]at e1;rw[c j o]at e2;exact g.ap _ _ _ e1 e2
   .rw[c i hi]at e1;rw[d j o]at e2;exact(g.low _ _ e1 (Yp (x j o b e2))).elim
   .rw[d i hi]at e1;rw[c j o]at e2;exact(g.low _ _ e2 (Yp (x i hi b e1))).elim
   .rw[d i hi]at e1;rw[d j o]at e2;exact h.ap _ _ _ e1 e2
  .by_cases hi:i<7
   .rw[c i hi]at e;exact g.low _ _ e (Yo a)
   .rw[d i hi]at e;exact h.low _ _ e a
end
section
variable{E:ew}{lo:Nat->Prop}{w w':World}{fb:Nat}{s:Rs}
def gQ(h:ee E lo w fb s)(v:Int)(z:s.aW.length<=1000000000):
  df 219 #[ptr fb,V Yr v] w (Yu #[]) λw'=>ee E lo w' fb {s with aW:=s.aW++[v]}/\Kp (iM lo) w w':=by
 obtain⟨A,B,a,-,⟨C,o,rfl,p⟩,-,n,-,d,e,-⟩:=h.frame;have q:=au a;obtain⟨r,f,g,i,j⟩:=info_parts iq;obtain⟨D,F⟩:=ae a;go_enter func219,ntmps219;go_wp2_with(at_builtin;refine bj _ U _ _ 53 U 0 38 r (V Yr 0) 1 8 underlying53 f g i j U Vb _ s.aW.length _ U (((Kp.refl no w).alloc _).own d bW) _ 1 [V Yr v] U (aw.new _ _ _) (eP U) ?c3 ?c4 ?c5 ?_);case c3=>unfold maxLen;omega
 case c4=>omega
 case c5=>omega
 intro G t c b k;obtain⟨u,x,rfl⟩:=aA c;have l:=(b.cell_far ⟨fb,1,H⟩ Vd n);have y:=(b.frozen_far ⟨fb,1,H⟩ Vd n).trans ((ae (ah a)).2 1);rw[(ae (ah a)).1 1]at l;have m:=e _ t _ (s.aW++[v]) ((Kp.refl no w).alloc _) (by simpa[ay]using c) b (by simpa using k);go_wp2;go_end0;exact⟨U,m⟩
def nO{b:Option Addr}(h:X.ownsRow 0 T 1 (Q b N j) N F){x:Yx}(c:F[k]?=M x):∃a,b=M ⟨a,0,H⟩/\X.cell? ⟨a,k,H⟩=M x/\X.frozen? ⟨a,k,H⟩=false:=by
 have g:=h.1;have a:=(VA.1 c).1;obtain⟨d,e,f,-,-⟩:=h.form Y;cases f;refine⟨d,U,?_,h.frozenAt _⟩;grind[World.ownsRow.cellAt]
def xl(h:ee E lo w fb s)(g:s.aW=L++[y])(t:s.aW.length<=1000000000):
  df 196 #[ptr fb] w (V Yr y) λw'=>(ee E lo w' fb {s with aW:=L}/\Kp (iM lo) w w')/\Kp (one fb) w w'/\w'.cell? ⟨fb,0,H⟩=w.cell? ⟨fb,0,H⟩:=by
 obtain⟨r,C,c,-,⟨D,b,rfl,i⟩,-,F,-,d,j,-⟩:=h.frame;have l:s.aW.length=L.length+1:=by rw[g];simp
 obtain⟨a,rfl,n,u⟩:=nO d (k:=L.length) (x:= V Yr y) (by rw[g];simp[ay]);have o:=λW (e:Kp no w W)=>j W W (Q (M ⟨a,0,H⟩) L.length b) L e (by
  have:=gY (e.own d bW) (m:=L.length) Y;rw[g]at this;simpa[ay]using this) (fY _ _) (Yo U)
 rw[l]at c i t;have v:IntKind.i64.wrap (((L.length+1:Nat):Int)-1)=(L.length:Int):=by rw[IntKind.wrap_i64];omega
 have z:IntKind.i64.wrap (L.length:Int)=(L.length:Int):=by rw[IntKind.wrap_i64];omega
 have A:L.length<=b:=Y
 have f:∀W,Kp no w W->(∀q,W.cell? ⟨fb,q,H⟩=#[r,Q (M ⟨a,0,H⟩) (L.length+1) b][q]?)/\(∀q,W.frozen? ⟨fb,q,H⟩=Yj)/\W.cell? ⟨a,L.length,H⟩=M (V Yr y):=λW k=>⟨(ae (k.az c id)).1,(ae (k.az c id)).2,k.cell n id⟩
 have p:∀W,Kp no w W->Kp (one fb) w (W.setCell ⟨fb,1,H⟩ (Q (M ⟨a,0,H⟩) L.length b))/\(W.setCell ⟨fb,1,H⟩ (Q (M ⟨a,0,H⟩) L.length b)).cell? ⟨fb,0,H⟩=w.cell? ⟨fb,0,H⟩:=λW e=>⟨e.any.bK _ _,by rw[(ae (heap_setCell (e.az c id) _)).1,(ae c).1];rfl⟩
 obtain⟨G,I,e⟩:=f w iR;go_enter func196,ntmps196;go_wp2_with fail;go_quiet(fail);go_wp2_with fail;refine rj 14 15 (λW=>(∀q,W.cell? ⟨fb,q,H⟩=#[r,Q (M ⟨a,0,H⟩) (L.length+1) b][q]?)/\(∀q,W.frozen? ⟨fb,q,H⟩=Yj)/\W.cell? ⟨a,L.length,H⟩=M (V Yr y)) ?hS λhS=>?_
 case hS=>exact f _ (((Kp.refl _ _).drewN _).drew)
 refine tj 0 ?_;iterate 13 refine tn ?_
 refine ej 14 λK q=>?_
 go_simp;refine q _ _ ?_;refine dj ?_;have q:=o (World.drew (World.drewN w nq)) (((Kp.refl _ _).drewN _).drew);have B:=p (World.drew (World.drewN w nq)) (((Kp.refl _ _).drewN _).drew);go_wp2;go_ret;exact⟨U,q,B⟩
def eC{o:List Int}{v:Int}(h:ee E lo w fb s)(a:s.aW=o++[v])(b:s.aW.length<=1000000000):
  df 196 #[ptr fb] w (V Yr v) λw'=>ee E lo w' fb {s with aW:=o}/\Kp (iM lo) w w':=(xl h a b).mono (λ_ _ h=>⟨h.1,h.2.1⟩)
def PO(h:ee E lo w fb s)(hk:t+k<=s.aW.length)(hs:s.aW.length<=1000000000):
  df 218 #[ptr fb,V O t,V O k] w (Yu #[]) λw'=>ee E lo w' fb {s with aW:=s.aW.take t++s.aW.drop (s.aW.length-k)}/\Kp (iM lo) w w':=by
 obtain⟨C,sv,d,-,⟨o,a,rfl,J⟩,-,D,-,g,p,-⟩:=h.frame;have A:=au d;obtain⟨F,r,v,y,z⟩:=info_parts iq;have f:∀W,Kp no w W-> ∀q,W.cell? ⟨fb,q,H⟩=#[C,Q o s.aW.length a][q]? :=λW k=>(ae (k.az d id)).1
 obtain⟨m,G⟩:=bL (s.aW.length-k);have B:m<=s.aW.length:=Y
 have L:IntKind.i64.wrap ((s.aW.length:Int) - (k:Int))=(m:Int):=by rw[IntKind.wrap_i64];omega
 have i:=jQ g B;have j:=gY g (m:=t) Y;have N:t<=a:=Y
 have P:t<=m:=Y
 rw[<-G];clear G;clear h g;replace j:=Z j;replace i:=Z i;change Hid _ at f d p;go_enter func218,ntmps218;go_wp2_with fail;refine rj 15 15 (λw'=> ∀q,w'.cell? ⟨fb,q,H⟩=#[C,Q o s.aW.length a][q]?) ?hS λhS=>?_
 case hS=>exact f _ fL
 refine tj 0 ?_;iterate 12 refine tn ?_
 refine oj 13 λK x=>?_
 refine bJ _ Vg _ _ _ Vg w.heap.size 38 F _ 1 8 underlying53 r v y z U Y _ 0 [] Vg ic _ (s.aW.length-m) _ Vg (aw.kp i ((Kp.refl no w).drew) bW) (λu q=>dX _ u (Xr q)) (by simp only[maxLen];omega) Y Vc ?_;intro tv I b c l;have n:Kp no w I:=((Kp.refl _ _).drew).bS c (λk e=>by cases e);refine x _ _ (f _ n) (λhS=>?_);rw[Vv,V1]at b;obtain⟨K,R,rfl⟩:=aA b;refine tj 14 ?_;refine dj ?_;generalize(if a=m then o else Option.map (λx=>x.add m) o)=S at *;have x:=f _ n;have T:=(ae (n.az d id)).2;have W:=Vm A n.size;go_wp2_with(at_builtin;refine bj _ U _ _ 53 U 0 38 F (V Yr 0) 1 8 underlying53 r v y z U Vb _ t _ U (n.own j bW) _ (s.aW.length-m) _ U (aw.own b) ?c2 ?c3 ?c4 ?c5 ?_);case c2=>exact λu q=>dX _ u (Xr q)
 case c3=>unfold maxLen;omega
 case c4=>omega
 case c5=>omega
 intro v1 u b c l;rw[iu o t a s.aW.length a]at c l;obtain⟨X,h0,rfl⟩:=aA b;have e:=(c.cell_far ⟨fb,1,H⟩ Vd D);have h1:=(c.frozen_far ⟨fb,1,H⟩ Vd D).trans (T 1);rw[x 1]at e;have q:=p I u _ (s.aW.take t++s.aW.drop m) n (by
  have e1:(s.aW.take t++s.aW.drop m).length=t+(s.aW.length-m):=Vd
  have e2:ay (s.aW.take t++s.aW.drop m)=(ay s.aW).take t++(ay s.aW).drop m:=by simp[ay,WB,WO]
  rw[e1,e2];simpa using b) c l
 go_wp2;go_end0;exact⟨U,q⟩
end
def wQ(st:List (Int×Int))(k v:Int):List (Int×Int):=if kP st k then st.set (dt st k) (k,v)else if st.length=8 then st else st.take (dt st k)++(k,v)::st.drop (dt st k)
def iw{f:Array Oper}{rest:List Oper}{o:Oper}{a:Act}{c:Exit->Act->Yw->Prop}(j:o.guard=H)(s x:Operand)(z:o.op=.call {callee:=.builtin .append,args:=#[s,x],argTypes:=#[70,70]})
  (d:Nat)(v:Yx)(n:Nat)(l:List Int)(A:a.eval s=v)(k:X.ownsRow d 2 1 v n (aQ l))(p:Yx)(m:Nat)(y:List Int)(B:a.eval x=p)(q:aw X p 1 m (aQ y))(E:n+m<=1000000)(r:d<=X.heap.size)
  (h:∀g e i,i.ownsRow d 2 1 (Q g (n+m) e) (n+m) (aQ (l++y))->Kp (λb=>v.ownBlock=M b) X i->(∀b,(Value.slice g (n+m) e).ownBlock=M b->v.ownBlock=M b\/X.heap.size<=b)->wpList prog f c rest (a.put o.dst (Q g (n+m) e)) i):wpList prog f c (o::rest) a X:=by
 obtain⟨C,b,t,u,w⟩:=info_parts xK;refine bj _ j s x 70 z d 2 C _ 1 8 underlying70 b t u w U Vb v n _ A k p m _ B q (nY _) (by grind[maxLen]) Y r ?_;intro F i D G I;obtain⟨g,e,rfl⟩:=aA D;grind[nu,aQ]
def vY(kv vv:Yx)(ks vs:List Int):Nat->jr
 |0=>.row 2 kv (aQ ks)
 |1=>.row 2 vv (aQ vs)
 |_=>.none
structure NR(w:Yw)(sb:Nat)(a b kv vv:Yx)(ks vs:List Int)(W:Yw):Prop where
 hp:Hp (λb=>b<w.heap.size) W (vY kv vv ks vs)
 kp:Kp (one sb) w W
 az:W.heap[sb]?=M (Yl #[a,b] 96)
 lt:sb<w.heap.size
def CT{c:Prop}[Decidable c]{a:Option Addr}(h:X.ownsRow k T 1 (Q a N t) N F):(Value.slice (if c then a else a.map (·.add j)) q d).ownBlock=(Value.slice a m o).ownBlock:=by
 obtain⟨-,⟨b,-⟩|⟨g,e,f,i,-⟩⟩:=h
 .cases b;split <;>rfl
 .cases i;split
  .rfl
  .show(Value.slice (M (Addr.add _ j)) q d).ownBlock=_
   rw[Addr.add_lit];rfl
section
variable{w W W':World}{sb:Nat}{a b kv vv kv' vv':Value}{ks vs ks' vs':List Int}
def NR.start(h:w.heap[sb]?=M (Yl #[a,b] 96))(k:Kp no w W):NR w sb a b (Q H 0 0) (Q H 0 0) [] [] W:=by
 have d:∀i,(vY (Q H 0 0) (Q H 0 0) [] [] i).az=none:=λi=>by rcases i with _|_|i<;>rfl
 refine⟨⟨λi=>?_,λi j b e=>?_,λi b e=>?_,λb c=>Vm c k.size⟩,k.any,k.az h id,au h⟩
 .rcases i with _|_|i
  .exact ic
  .exact ic
  .trivial
 .grind
 grind
def NR.quiet(h:NR w sb a b kv vv ks vs W)(k:Kp no W W'):NR w sb a b kv vv ks vs W':=⟨h.hp.quiet k,h.kp.trans k.any,k.az h.az id,h.lt⟩
theorem NR.old(h:NR w sb a b kv vv ks vs W){i:Nat}(k:Kp (λb=>(vY kv vv ks vs i).az=M b) W W'):Kp (one sb) w W'/\W'.heap[sb]?=M (Yl #[a,b] 96):=
 ⟨h.kp.comp k bW (λb c e=>absurd c (h.hp.low i b e)),k.az h.az (λe=>h.hp.low i sb e h.lt)⟩
def NR.U4(h:NR w sb a b kv vv ks vs W)(d:t=ks'.length)(l:W'.ownsRow 0 2 1 kv' t (aQ ks'))(k:Kp (λb=>kv.ownBlock=M b) W W')(f:∀b,kv'.ownBlock=M b->kv.ownBlock=M b\/W.heap.size<=b):NR w sb a b kv' vv ks' vs W':=by
 subst d;have c:=h.hp.set (x:=.row 2 kv' (aQ ks')) 0 k (by show World.ownsRow _ _ _ _ _ _ _;grind[jq]) f;have e:yT (vY kv vv ks vs) 0 (.row 2 kv' (aQ ks'))=vY kv' vv ks' vs:=by funext i;rcases i with _|_|i<;>rfl
 rw[e]at c;obtain⟨g,j⟩:=h.old (i:=0) k;exact⟨c,g,j,h.lt⟩
def NR.U5(h:NR w sb a b kv vv ks vs W)(d:t=vs'.length)(l:W'.ownsRow 0 2 1 vv' t (aQ vs'))(k:Kp (λb=>vv.ownBlock=M b) W W')(f:∀b,vv'.ownBlock=M b->vv.ownBlock=M b\/W.heap.size<=b):NR w sb a b kv vv' ks vs' W':=by
 subst d;have c:=h.hp.set (x:=.row 2 vv' (aQ vs')) 1 k (by show World.ownsRow _ _ _ _ _ _ _;grind[jq]) f;have e:yT (vY kv vv ks vs) 1 (.row 2 vv' (aQ vs'))=vY kv vv' ks vs':=by funext i;rcases i with _|_|i<;>rfl
 rw[e]at c;obtain⟨g,j⟩:=h.old (i:=1) k;exact⟨c,g,j,h.lt⟩
theorem NR.own(h:NR w sb a b kv vv ks vs W):W.ownsRow 0 2 1 kv ks.length (aQ ks)/\W.ownsRow 0 2 1 vv vs.length (aQ vs):=by
 have c:=h.hp.dY 0;have d:=h.hp.dY 1;grind[vY,jr.At,jq]
def NR.store(h:NR w sb a b kv vv ks vs W)(o:Nat)(u:Yx){b':Yx}(e: #[a,b].setIfInBounds o u=#[z,b']):NR w sb z b' kv vv ks vs (W.setCell ⟨sb,o,H⟩ u):=by
 have c:Kp _ W (W.setCell ⟨sb,o,H⟩ u):=(Kp.refl _ _).bK _ _;refine⟨⟨λi=>(h.hp.dY i).kp c (λb d (e:b=sb)=>h.hp.low i b d (by rw[e];exact h.lt)),h.hp.ap,h.hp.low,λb d=>Vm (h.hp.zV b d) c.size⟩,h.kp.trans c,?_,h.lt⟩;grind[heap_setCell,az]
def PQ(h:W.ownsRow 0 T 1 u j F)(f:∀b,u.ownBlock=M b->k<=b):W.ownsRow k T 1 u j F:=by
 obtain⟨e,i|⟨g,c,d,rfl,m,l⟩⟩:=h
 .exact⟨e,Yo i⟩
 .exact⟨e,Yp ⟨g,c,d,U,f g U,l⟩⟩
def NR.done(h:NR w sb a b kv vv ks vs W):W.ownsRow w.heap.size 2 1 kv ks.length (aQ ks)/\W.ownsRow w.heap.size 2 1 vv vs.length (aQ vs)/\ ∀b,kv.ownBlock=M b->vv.ownBlock≠M b:=
 ⟨PQ h.own.1 (λb c=>XI (h.hp.low 0 b c)),PQ h.own.2 (λb c=>XI (h.hp.low 1 b c)),λb d e=>by have:=h.hp.ap 0 1 b d e;cases this⟩
end
section
variable{E:ew}{lo:Nat->Prop}{w w':World}{fb:Nat}{s:Rs}
def U6(h:ee E lo w fb s)(k v:Int)(hs:s.st.length<=8):
  df 222 #[ptr E.sb,V O k,V O v] w (Yt (kP s.st k|| !(s.st.length==8))) λw'=>ee E lo w' fb {s with st:=wQ s.st k v}/\Kp (iM lo) w w':=by
 have t:=Z (IQ h.sat k Y);obtain⟨kv,vv,d,y,p,z,A,K,L⟩:=h.store;have m:=IP s.st k;cases q:kP s.st k with
 |true=>
  have b:=IU q;have o:=(VA.1 b).1;have e:wQ s.st k v=s.st.set (dt s.st k) (k,v):=by unfold wQ;rw[q];rfl
  rw[e,Bool.true_or];rw[q]at t;have j:=λW a c i=>K W a _ k v _ c i b
  obtain⟨f,g,rfl,r⟩:=(aw.own p).aJ;obtain⟨a,rfl,l,D⟩:=nO p (x:= V O (s.st.getD _ (0,0)).2) (by unfold aQ;rw[VN,VN,b];rfl);generalize(s.st.getD _ (0,0)).2=u at *;generalize dt s.st k=n at *;generalize s.st.length=N at *;go_enter func222,ntmps222;go_wp2_with fail;refine t.bw ?_;rintro B i;obtain⟨F,G⟩:=ae (i.az d id);have I:=i.cell l id;have J:B.frozen? ⟨a,n,H⟩=false:=(i.own p bW).frozenAt _;have C:=Z (j B a i U);go_wp2;go_ret;exact⟨U,C⟩
 |false=>
  rw[q]at t;by_cases u:s.st.length=8
  .have e:wQ s.st k v=s.st:=by unfold wQ;rw[q];simp[u]
   rw[e,u];have C:=Z (λW (c:Kp no w W)=>h.quiet c);obtain⟨r,a,rfl,N⟩:=(aw.own y).aJ;rw[u]at d;go_enter func222,ntmps222;go_wp2_with fail;refine t.bw ?_;rintro B i;obtain⟨F,G⟩:=ae (i.az d id);go_wp2;go_ret;exact⟨U,C B i,i.any⟩
  .have e:wQ s.st k v=s.st.take (dt s.st k)++(k,v)::s.st.drop (dt s.st k):=by unfold wQ;rw[q,Va u];rfl
   rw[e,show(s.st.length==8)=Yj by simpa using u];obtain⟨r,a,rfl,N⟩:=(aw.own y).aJ;obtain⟨f,g,rfl,h0⟩:=(aw.own p).aJ;have p1:aw w (Q r (dt s.st k) a) 1 (dt s.st k) (aQ ((s.st.take (dt s.st k)).map (·.1))):=by simpa[aQ]using aw.own (gY y m)
   have p2:aw w (Q f (dt s.st k) g) 1 (dt s.st k) (aQ ((s.st.take (dt s.st k)).map (·.2))):=by simpa[aQ]using aw.own (gY p m)
   have q1:aw w (Q (if a=dt s.st k then r else r.map (·.add (dt s.st k))) (s.st.length-dt s.st k) (a-dt s.st k)) 1 (s.st.length-dt s.st k) (aQ ((s.st.drop (dt s.st k)).map (·.1))):=by rw[show aQ _=(aQ (s.st.map (·.1))).drop (dt s.st k)by simp[aQ]];exact jQ y m
   have q2:aw w (Q (if g=dt s.st k then f else f.map (·.add (dt s.st k))) (s.st.length-dt s.st k) (g-dt s.st k)) 1 (s.st.length-dt s.st k) (aQ ((s.st.drop (dt s.st k)).map (·.2))):=by rw[show aQ _=(aQ (s.st.map (·.2))).drop (dt s.st k)by simp[aQ]];exact jQ p m
   have D:=λl b j=>L l b j (s.st.take (dt s.st k)++(k,v)::s.st.drop (dt s.st k))
   have hN:(s.st.take (dt s.st k)++(k,v)::s.st.drop (dt s.st k)).length=dt s.st k+1+(s.st.length-dt s.st k):=Vd
   have h1:((s.st.length:Nat):Int)≠8:=Y
   have h2:dt s.st k<=a:=Y
   have h3:dt s.st k<=g:=Y
   rw[hN]at D;generalize dt s.st k=n at *;have P1:=Z (λW (c:Kp (one E.sb) w W)=>p1.kp c (λb d (e:b=_)=>z (by rw[<-e,<-d];exact iu _ _ _ _ _)));have P2:=Z (λW (c:Kp (one E.sb) w W)=>p2.kp c (λb d (e:b=_)=>A (by rw[<-e,<-d];exact iu _ _ _ _ _)));have Q1:=Z (λW (c:Kp (one E.sb) w W)=>q1.kp c (λb d (e:b=_)=>z (by rw[<-e,<-d];exact CT y)));have Q2:=Z (λW (c:Kp (one E.sb) w W)=>q2.kp c (λb d (e:b=_)=>A (by rw[<-e,<-d];exact CT p)));go_enter func222,ntmps222;go_wp2_with fail;refine t.bw ?_;rintro B i;obtain⟨F,G⟩:=ae (i.az d id);have X:=Z (NR.start d i);go_wp2_with(at_builtin;go_loud (refine iw U _ _ U 0 _ 0 [] U ic _ n _ U (P1 _ X.kp) Y (VB _) ?_));intro h4 h5 w2 b j l;have P:=Z (X.U4 Vd b j l);obtain⟨F,G⟩:=ae P.az;go_wp2_with(at_builtin;go_loud (refine iw U _ _ U 0 _ 0 [] U ic _ n _ U (P2 _ P.kp) Y (VB _) ?_));intro h6 h7 w3 b j l;have N3:=Z (P.U5 Vd b j l);have o:min n s.st.length=n:=Y
   have O3:=Z (show ∀W,Kp no w3 W->W.ownsRow 0 2 1 _ n _ from λW c=>by have:=(N3.quiet c).own.1;rw[VV,VH,o]at this;exact this);go_wp2_with(at_builtin;go_loud (refine iw U _ _ U 0 _ n _ U (O3 _ oO) _ 1 [k] U (aw.new _ _ _) Y (VB _) ?_));intro h8 h9 w4 b j l;have N4:=Z ((N3.quiet oO).U4 Vd b j (by simpa using l));have O4:=Z (show ∀W,Kp no w4 W->W.ownsRow 0 2 1 _ n _ from λW c=>by have:=(N4.quiet c).own.2;rw[VV,VH,o]at this;exact this);go_wp2_with(at_builtin;go_loud (refine iw U _ _ U 0 _ n _ U (O4 _ oO) _ 1 [v] U (aw.new _ _ _) Y (VB _) ?_));intro k0 k1 w5 b j l;have c:=Z ((N4.quiet oO).U5 Vd b j (by simpa using l));obtain⟨F,G⟩:=ae c.az;have O5:=Z (by have:=c.own.1;rw[Vn,VV,VH,o]at this;exact this);generalize k2:(if a=n then r else Option.map _ r)=ta at *;go_wp2_with(at_builtin;go_loud (refine iw U _ _ U 0 _ (n+1) _ U O5 _ _ _ U (Q1 _ c.kp) Y (VB _) ?_));intro R S w6 b j l;have N6:=Z (c.U4 Vd b j l);have I:=Z (N6.store 0 (Q R (n+1+(s.st.length-n)) S) U);obtain⟨k3,k4⟩:=ae N6.az;obtain⟨k5,k6⟩:=ae I.az;have O7:=Z (by have:=I.own.2;rw[Vn,VV,VH,o]at this;exact this);generalize k7:(if g=n then f else Option.map _ f)=tb at *;go_wp2_with(at_builtin;go_loud (refine iw U _ _ U 0 _ (n+1) _ U O7 _ _ _ U (Q2 _ I.kp) Y (VB _) ?_));intro T W w8 b j l;have N8:=Z (I.U5 Vd b j (by simpa using l));obtain⟨k8,k9⟩:=ae N8.az;have J:=Z (N8.store 1 (Q T (n+1+(s.st.length-n)) W) U);have e1:(s.st.map (·.1)).take n++k::(s.st.map (·.1)).drop n=(s.st.take n++(k,v)::s.st.drop n).map (·.1):=by simp[WB]
   have e2:(s.st.map (·.2)).take n++v::(s.st.map (·.2)).drop n=(s.st.take n++(k,v)::s.st.drop n).map (·.2):=by simp[WB]
   have el:(s.st.take n++(k,v)::s.st.drop n).length=n+1+(s.st.length-n):=Vd
   rw[e1,e2]at J;obtain⟨d1,d2,d3⟩:=J.done;rw[VH,el]at d1 d2;have C:=Z (D _ _ _ J.kp J.az d1 d2 d3);go_wp2;go_ret;exact⟨U,C⟩
end
end
section
open Go.RowKit
def top(wd:Bool):Nat:=if wd then 18446744073709551616 else 4294967296
def xa(wd:Bool)(a:Nat):Int:=if 2*a<top wd then (a:Int)else (a:Int) - (top wd:Int)
theorem kJ(a:Bool)(b:k<top a):bF a (k:Int)=xa a k:=by
 cases a
 .simp only[top,Vq,VL]at b;unfold bF xa top;simp only[Vq,VL];grind[IntKind.wrap_u64,wrap64]
 .simp only[top,VK]at b;unfold bF xa top;simp only[VK];grind[IntKind.wrap_u64,wrap64]
def xc(a:Bool)(b:k<18446744073709551616):eE a (k:Int)=((k%top a:Nat):Int):=by
 cases a
 .unfold eE top;simp only[Vq,VL];grind[IntKind.wrap_u64]
 rfl
theorem sO(a:Bool):top a=2^wN a:=by cases a<;>rfl
def xL(a:Bool):top a=2*2^(wN a-1):=by cases a<;>rfl
theorem pq(a:Bool):top a<=18446744073709551616:=by cases a<;>decide
def sP(wd:Bool)(k a:Nat):Nat:=
 match k with
 |10=>2*a%top wd
 |11=>a/2+a/2^(wN wd-1)%2*2^(wN wd-1)
 |12=>a/2
 |13=>2*a%top wd+a/2^(wN wd-1)%2
 |_=>a/2+a%2*2^(wN wd-1)
def gL(wd:Bool)(k:Nat):Nat->Nat->Nat
 |0,a=>a
 |c+1,a=>gL wd k c (sP wd k a)
theorem xd(a:Bool)(k:Nat)(b:t<top a):sP a k t<top a:=by
 have h:=xL a;have c:=Wa (wN a-1);unfold sP;grind[top]
theorem NL(a:Bool)(k c:Nat)(b:t<top a):gL a k c t<top a:=by
 induction c generalizing t with
 |zero=>exact b
 |succ c ih=>exact ih (xd a k b)
def Kq(b:Bool)(c a:Nat)(d:a<top b):gL b 10 c a=a*2^c%top b:=by
 induction c generalizing a with
 |zero=>rw[Xd,Xh,VT d];rfl
 |succ c ih=>
  show gL b 10 c (2*a%top b)=_
  grind[Nat.mod_lt,Nat.mod_mul_mod]
theorem Kr(b:Bool)(c a:Nat):gL b 12 c a=a/2^c:=by
 induction c generalizing a with
 |zero=>rw[Xd,Yb];rfl
 |succ c ih=>
  show gL b 12 c (a/2)=_
  grind[Nat.div_div_eq_div_mul]
theorem NM(a:Bool)(b:k<top a):xa a (sP a 11 k)=xa a k/2:=by
 have h:=xL a;show xa a (k/2+k/2^(wN a-1)%2*2^(wN a-1))=_
 unfold xa;rw[h]at b⊢;have c:=Wa (wN a-1);have d:k/2^(wN a-1)=if 2*k<2*2^(wN a-1)then 0 else 1:=by
  split
  .simp_all[Xj]
  .exact(Nat.div_eq_iff c).mpr ⟨Y,Y⟩
 grind
theorem Ks(b:Bool)(c a:Nat)(d:a<top b):xa b (gL b 11 c a)=xa b a/2^c:=by
 induction c generalizing a with
 |zero=>rw[Int.pow_zero,Int.ediv_one];rfl
 |succ c ih=>
  grind[gL,xd,NM,Int.ediv_ediv_of_nonneg]
theorem NN(a:Bool)(b:k<top a):eE a (IntKind.u64.wrap (xa a k))=k:=by
 cases a
 .have h:k<4294967296:=b;unfold eE xa top;simp only[Vq,VL,IntKind.wrap_u64];omega
 .have h:k<18446744073709551616:=b;unfold eE xa top;simp only[VK,IntKind.wrap_u64];omega
theorem Kt(b:Bool)(c a:Nat)(q:a<top b)(r:c<=wN b):gL b 13 c a=a*2^c%top b+a/2^(wN b-c):=by
 obtain⟨n,i⟩:=bL (wN b);have l:0<n:=by rw[i];cases b<;>decide
 suffices h:∀d,d<=n-> ∀x y:Nat,x<2^d->y<2^(n-d)-> ∀e,e<=d->gL b 13 e (y+2^(n-d)*x)=x/2^(d-e)+2^e*y+2^(e+(n-d))*(x%2^(d-e))by
  have f:=h n cQ a 0 (by grind[sO]) (Wa _) c Y;rw[Wr,Xd,Nat.one_mul,Vv,Nat.mul_zero,VU,VU]at f;rw[f,<-i,WL];congr 1;rw[sO,<-i,show n=c+(n-c)by omega,V5,Ww a,XU,show c+(n-c)-c=n-c by omega]
 intro d s x y j t e;induction e generalizing d x y with
 |zero=>
  intro _;show y+_=_
  simp_all[VT]
 |succ e ih=>
  intro u;obtain⟨g,rfl⟩:∃g,d=g+1:=⟨d-1,Y⟩;have k:=Wa g;rw[VO]at j;have m:=WY j;have e1:sP b 13 (y+2^(n - (g+1))*x)=(2*y+x/2^g)+2^(n-g)*(x%2^g):=by
   have o:=Nat.div_add_mod x (2^g);have f:y+2^(n - (g+1))*(x%2^g)<2^(n-1):=by
    have p:2^(n - (g+1))*(x%2^g+1)<=2^(n - (g+1))*2^g:=Xa _ (Wn _ k);rw[<-V5,show n - (g+1)+g=n-1 by omega,Yc]at p;omega
   have e2:y+2^(n - (g+1))*x=(y+2^(n - (g+1))*(x%2^g))+2^(n-1)*(x/2^g):=by
    conv =>lhs;rw[<-o,Yc,<-Nat.mul_assoc,<-V5,show n - (g+1)+g=n-1 by omega]
    omega
   have e3:2^(n-g)=2*2^(n - (g+1)):=by rw[show n-g=n - (g+1)+1 by omega,VO,Ww]
   show 2*_%top b+_/2^(wN b-1)%2=_
   rw[xL,<-i,XU,e2,XD,VT f,XV _ _ (Wa _),Xj f,Vv,VT m,e3,Yc,Nat.mul_assoc];omega
  have f:2*y+x/2^g<2^(n-g):=by
   rw[show n-g=n - (g+1)+1 by omega,VO];omega
  show gL b 13 e (sP b 13 _)=_
  rw[e1,ih g Y _ _ (Wn _ k) f Y];have o:g+1 - (e+1)=g-e:=Y
  have p:e+1+(n - (g+1))=e+(n-g):=Y
  have v:2^g=2^(g-e)*2^e:=by rw[<-V5,show g-e+e=g by omega]
  grind[Nat.div_add_mod,Nat.mul_assoc,Nat.mul_add_div,Nat.pow_succ]
def Gr(b:Bool)(k c a:Nat):gL b k (c+1) a=sP b k (gL b k c a):=by
 induction c generalizing a with
 |zero=>rfl
 |succ c ih=>exact ih (sP b k a)
def Ku(b:Bool)(c a:Nat)(d:c<=wN b):gL b 14 c a=a/2^c+2^(wN b-c)*(a%2^c):=by
 induction c with
 |zero=>rw[Xd,Yb,Yd];rfl
 |succ c ih=>
  rw[Gr,ih Y];have e1:2^(wN b-c)=2*2^(wN b - (c+1)):=by rw[show wN b-c=wN b - (c+1)+1 by omega,VO,Ww]
  have e2:2^(wN b-1)=2^(wN b - (c+1))*2^c:=by rw[<-V5,show wN b - (c+1)+c=wN b-1 by omega]
  have e3:a/2^(c+1)=a/2^c/2:=by grind[Nat.div_div_eq_div_mul]
  have e4:a%2^(c+1)=a%2^c+2^c*(a/2^c%2):=by rw[VO,Ye]
  rw[e1,e3,e4];show(_+2*2^(wN b - (c+1))*(a%2^c))/2+(_+2*2^(wN b - (c+1))*(a%2^c))%2*2^(wN b-1)=_
  grind
def UC{n:Nat}(x y:Nat)(h:y<2^c)(a:x*2^c<2^n)(b:2^n<=18446744073709551616)(d:y<2^n):bits BinOp.or IntKind.u64 ((x*2^c:Nat):Int) (y:Int)=((x*2^c+y:Nat):Int):=by
 rw[bits_or_u64_nat _ _ Y Y,Ww,Wx h]
theorem xM(x:Nat):IntKind.u64.wrap (x:Int)=((x%18446744073709551616:Nat):Int):=Vg
theorem Ec(a:Bool)(b:k<top a)(h:c<=wN a):jK a k c=((k*2^c%top a+k/2^(wN a-c):Nat):Int):=by
 have i:wN a<=64:=by cases a<;>decide
 have e:k/2^(wN a-c)<2^c:=by
  apply WY;rw[<-V5,show wN a-c+c=wN a by omega,<-sO];exact b
 have f:k/2^(wN a-c)<top a:=Xe (Nat.div_le_self _ _) b;have j:=pq a;unfold jK;have e1:(k:Int)*2^c=((k*2^c:Nat):Int):=Vc
 have e2:(k:Int)/2^(wN a-c)=((k/2^(wN a-c):Nat):Int):=Vc
 have e3:k*2^c%18446744073709551616=(k%2^(64-c))*2^c:=by
  have:(18446744073709551616:Nat)=2^(64-c)*2^c:=by rw[<-V5,show 64-c+c=64 by omega]
  grind[Nat.mul_mod_mul_right]
 have e4:(k%2^(64-c))*2^c<2^64:=Y
 have e5:k*2^c%top a+k/2^(wN a-c)<top a:=by
  have:top a=2^(wN a-c)*2^c:=by rw[<-V5,show wN a-c+c=wN a by omega,sO]
  rw[this,Nat.mul_mod_mul_right];have d:(k%2^(wN a-c)+1)*2^c<=2^(wN a-c)*2^c:=Wm _ (Wn _ (Wa _));grind
 have g:(k%2^(64-c))*2^c+k/2^(wN a-c)<18446744073709551616:=by
  have d:(k%2^(64-c)+1)*2^c<=2^(64-c)*2^c:=Wm _ (Wn _ (Wa _));rw[<-V5,show 64-c+c=64 by omega,Nat.add_mul,Nat.one_mul]at d;omega
 rw[e1,e2,xM,e3,UC (n:=64) _ _ e e4 Vb Y,xc a g,<-e3];grind[top]
def UD(a:Bool)(b:k<top a)(d:c<=wN a):
  eE a (IntKind.u64.wrap ((k:Int)*2^c))=(gL a 10 c k:Nat)/\eE a (IntKind.u64.wrap (bF a k/2^c))=(gL a 11 c k:Nat)/\
  (k:Int)/2^c=(gL a 12 c k:Nat)/\jK a k c=(gL a 13 c k:Nat)/\jK a k (wN a-c)=(gL a 14 c k:Nat):=by
 refine⟨?_,?_,?_,?_,?_⟩
 .rw[Kq a c k b,show(k:Int)*2^c=((k*2^c:Nat):Int)by simp,xM,xc a (Wn _ Vb)];congr 1;exact Nat.mod_mod_of_dvd _ (Nat.dvd_of_mod_eq_zero (by cases a<;>rfl))
 .grind[kJ,Ks,NN,NL]
 .grind[Kr]
 .grind[Ec,Kt]
 .rw[Ec a b (Yi _ _),Ku a c k d,show wN a - (wN a-c)=c by omega,WL];congr 2;have:top a=2^c*2^(wN a-c):=by rw[<-V5,show c+(wN a-c)=wN a by omega,sO]
  grind[Nat.mul_mod_mul_right]
theorem lN(a:Bool)(z:Int):eE a (IntKind.u64.wrap z)=z% (top a:Int):=by
 have e:IntKind.u64.wrap z=(((z%18446744073709551616).toNat:Nat):Int):=by grind[IntKind.wrap_u64]
 rw[e,xc a Y];cases a
 .show(((z%18446744073709551616).toNat%4294967296:Nat):Int)=z%4294967296
  omega
 .show(((z%18446744073709551616).toNat%18446744073709551616:Nat):Int)=z%18446744073709551616
  omega
theorem sQ(a:Bool)(z:Int):eE a (IntKind.u64.wrap (wrap64 z))=eE a (IntKind.u64.wrap z):=by
 rw[lN,lN];unfold wrap64;cases a
 .show _% (4294967296:Int)=z%4294967296
  omega
 .show _% (18446744073709551616:Int)=z%18446744073709551616
  omega
theorem xN(b:Bool)(a:Nat):xa b a% (top b:Int)=(a:Int)% (top b:Int):=by
 grind[xa,Int.sub_emod_right]
def Rx(a:Bool)(b:k<top a)(c:t<top a):eE a (IntKind.u64.wrap (wrap64 (bF a k+bF a t)))=eE a (IntKind.u64.wrap ((k:Int)+t)):=by
 grind[sQ,lN,kJ,Int.add_emod,xN]
def Ry(wd:Bool){a b:Nat}(ha:a<top wd)(hb:b<top wd):eE wd (IntKind.u64.wrap (wrap64 (bF wd a-bF wd b)))=eE wd (IntKind.u64.wrap ((a:Int)-b)):=by
 grind[sQ,lN,kJ,Int.sub_emod,xN]
def Rz(a:Bool)(b:k<top a)(c:t<top a):eE a (IntKind.u64.wrap (wrap64 (bF a k*bF a t)))=eE a (IntKind.u64.wrap ((k:Int)*t)):=by
 grind[sQ,lN,kJ,Int.mul_emod,xN]
def Ul(op:Nat):Bool:=decide ((81<=op/\op<=90)\/(121<=op/\op<=138))
def PZ(b:Bool)(w:Yw):fX 221 #[Yt b] w (V Yr (truth b)):=by
 cases b;all_goals
  go_enter func221,ntmps221;go_wp2;go_ret;exact⟨U,U⟩
def Ba{P:Prop}(h:P:=by
 go_enter func270,ntmps270;go_wp2;all_goals first |(go_ret;exact⟨U,U⟩)|(exfalso;omega)):P:=h
def mH(a:Nat)(c:a<256)(w:Yw):fX 270 #[V Ys a] w (V O (wN (Ul a))):=by
 by_cases h:(81<=a/\a<=90)\/(121<=a/\a<=138)
 .have e:Ul a=true:=by unfold Ul;exact XR h
  rw[e];rcases h with h|h
  .exact Ba
  .rcases VE a 124 with b|b
   all_goals
    go_enter func270,ntmps270;go_wp2;all_goals first |(go_ret;exact⟨U,U⟩)|(exfalso;omega)
 .have e:Ul a=false:=by unfold Ul;exact XL h
  rw[e];rcases VE a 81 with b|b
  .exact Ba
  .rcases VE a 121 with d|d
   all_goals
    go_enter func270,ntmps270;go_wp2;all_goals first |(go_ret;exact⟨U,U⟩)|(exfalso;omega)
def gC(b:Bool){a:Nat}(d:a<top b)(w:Yw):fX 271 #[V Yr a,V O (wN b)] w (V O (bF b a)):=by
 have i:∀x:Int,-9223372036854775808<=x->x<9223372036854775808->wrap64 x=x:=λx c e=>by unfold wrap64;omega
 rw[kJ b d];cases b
 .have f:a<4294967296:=d;have c:=i (a:Int) Y Y;by_cases h:2147483648<=a
  .have e:xa Yj a=(a:Int)-4294967296:=by unfold xa;rw[Va (by simp[top];omega)];rfl
   have g:=i ((a:Int)-4294967296) Y Y;rw[e];have hi:(2147483648:Int)<=(a:Int):=Y
   go_enter func271,ntmps271;go_wp2;go_ret;exact⟨by first |rfl |simp[c,g],U⟩
  .have e:xa Yj a=(a:Int):=by unfold xa;rw[Vi (by simp[top];omega)]
   rw[e];have hi: ¬((2147483648:Int)<=(a:Int)):=Y
   go_enter func271,ntmps271;go_wp2;go_ret;exact⟨by first |rfl |simp[c],U⟩
 .have e:xa Yk a=wrap64 a:=by
   have f:a<18446744073709551616:=d;unfold xa wrap64;simp only[top,VK];split <;>omega
  rw[e];go_enter func271,ntmps271;go_wp2;go_ret;exact⟨U,U⟩
def C3(c:Bool)(a:Int)(w:Yw):fX 272 #[V O a,V O (wN c)] w (V Yr (eE c (IntKind.u64.wrap a))):=by
 cases c
 .have e:eE Yj (IntKind.u64.wrap a)=(IntKind.u64.wrap a).tmod 4294967296:=by
   have h:=IntKind.wrap_u64 a;generalize IntKind.u64.wrap a=b at *;have d:0<=b/\b<18446744073709551616:=Y
   show IntKind.u64.wrap (b*4294967296)/4294967296=_
   rw[IntKind.wrap_u64,WC d.1];omega
  rw[e];go_enter func272,ntmps272;go_wp2;go_ret;exact⟨U,U⟩
 .have e:eE Yk (IntKind.u64.wrap a)=IntKind.u64.wrap a:=by
   show IntKind.u64.wrap (IntKind.u64.wrap a)=_
   rw[IntKind.wrap_u64,IntKind.wrap_u64];omega
  rw[e];go_enter func272,ntmps272;go_wp2;go_ret;exact⟨U,U⟩
end
section
open Go.RowKit
open Rf (ptr bh)
abbrev eW(op n:Nat)(lab bv ev:Yx)(va:Int):Value:=.agg #[V Ys op,V Yr n,lab,bv,ev,V O va]
abbrev bX(op n:Nat)(lab bv ev:Yx)(va:Int):Obj:= Yl #[V Ys op,V Yr n,lab,bv,ev,V O va] 309
abbrev ui(E:ew)(lo:Nat->Prop)(w:Yw)(fb:Nat)(s':Rs):Ending->Yw->Prop:=λr w'=>r= Yq (Yu #[])/\ee E lo w' fb s'/\Kp (iM lo) w w'
section
variable{E:ew}{lo:Nat->Prop}{w w':World}{fb n:Nat}{s:Rs}{lab bv ev:Value}{va:Int}
def ee.box(h:ee E lo w fb s)(o:Obj):ee E (λb=>lo b\/b=w.heap.size) (w.alloc o) fb s:=h.guard ((Kp.refl _ w).alloc o) (λb=>b=w.heap.size) (λb a=>Vh)
def dP{o:Obj}{a:Rs}(c:∀b,E.ro b->lo b)(h:ee E (λb=>lo b\/b=w.heap.size) w' fb a)(k:Kp (iM (λb=>lo b\/b=w.heap.size)) (w.alloc o) w'):ee E lo w' fb a/\Kp (iM lo) w w':=⟨h.free c,((Kp.refl _ w).alloc o).trans (fP k)⟩
def ee.P0(h:ee E lo w fb s)(a:Array Yx)(t:TypeId):(∀o,(w.alloc (Yl a t)).cell? ⟨E.rb,o,H⟩=#[ptr E.xb,V O E.F,V O s.used,V O s.t,V O s.d][o]?)/\ ∀o,(w.alloc (Yl a t)).frozen? ⟨E.rb,o,H⟩=false:=ae (ah h.run.1)
def Bb{P:Prop}(h:P:=by
 go_wp2_with fail;refine HP.bw ?_;rintro c⟨a,b⟩;go_wp2;go_end0;exact⟨U,dP hr a b⟩):P:=h
def SG(h:ee E lo w fb s)(a:s.aW=L++[y])(b:s.aW.length<=1000000000):Yy prog 197 #[ptr E.rb,ptr fb,eW 26 n lab bv ev va] w (ui E lo w fb {s with aW:=L}):=by
 have hr:=h.mW;have HP:=eC (h.box (bX 26 n lab bv ev va)) a b;go_enter func197,ntmps197;exact Bb
def SH(h:ee E lo w fb s):Yy prog 197 #[ptr E.rb,ptr fb,eW 0 n lab bv ev va] w (ui E lo w fb {s with t:=1}):=by
 have c:=h.mW;have d:=λa t=>(h.P0 a t).1
 have e:=λa t=>(h.P0 a t).2
 have b:=(h.box (bX 0 n lab bv ev va)).run.2.2.1 _ 1 iR;go_enter func197,ntmps197;go_wp2;go_end0;exact⟨U,dP c b.1 b.2⟩
def SI(h:ee E lo w fb s)(a:k=1\/k=173):Yy prog 197 #[ptr E.rb,ptr fb,eW k n lab bv ev va] w (ui E lo w fb s):=by
 have b:=h.quiet ((Kp.refl no w).alloc (bX k n lab bv ev va));rcases a with rfl |rfl
 all_goals
  go_enter func197,ntmps197;go_wp2;go_end0;exact⟨U,b,oO⟩
def P3(h:ee E lo w fb s)(a:k=65\/k=66)(b:s.aW.length<=1000000000):Yy prog 197 #[ptr E.rb,ptr fb,eW k n lab bv ev va] w (ui E lo w fb {s with aW:=s.aW++[(n:Int)]}):=by
 have c:=h.mW;have d:=gQ (h.box (bX k n lab bv ev va)) (n:Int) b;rcases a with rfl |rfl
 all_goals
  go_enter func197,ntmps197;go_wp2_with fail;refine d.bw ?_;rintro g⟨e,f⟩;go_wp2;go_end0;exact⟨U,dP c e f⟩
def L6(h:ee E lo w fb s){o:List Int}{b c:Int}(d:s.aW=o++[y,b,c])(a:s.aW.length<=1000000000):Yy prog 197 #[ptr E.rb,ptr fb,eW 27 n lab bv ev va] w (ui E lo w fb {s with aW:=o++[if c=0 then b else y]}):=by
 have f:=h.mW;have t:o.length+3<=1000000000:=by rw[d]at a;simpa using a
 have g:=eC (o:=o++[y,b]) (v:=c) (h.box (bX 27 n lab bv ev va)) (by rw[d];simp) a;by_cases e:c=0;all_goals
  first |rw[Vi e]|rw[Va e]
  go_enter func197,ntmps197;go_wp2_with fail;refine g.bw ?_;rintro u⟨i,j⟩;go_wp2_with fail;refine(eC (o:=o++[y]) (v:=b) i Vc Vd).bw ?_;rintro x⟨k,l⟩;go_wp2_with fail;refine(eC (o:=o) (v:=y) k U Vd).bw ?_;rintro z⟨m,p⟩;go_wp2_with fail;refine(gQ m _ Vd).bw ?_;rintro A⟨q,r⟩;go_wp2;go_end0;exact⟨U,dP f q (((j.trans l).trans p).trans r)⟩
def SJ(h:ee E lo w fb s)(a:k=69\/k=80)(c:s.aW=L++[y])(b:s.aW.length<=1000000000):Yy prog 197 #[ptr E.rb,ptr fb,eW k n lab bv ev va] w (ui E lo w fb {s with aW:=L++[truth (y==0)]}):=by
 have d:=h.mW;have l:L.length+1<=1000000000:=by rw[c]at b;simpa using b
 have e:=eC (h.box (bX k n lab bv ev va)) c b;rcases a with rfl |rfl
 all_goals
  go_enter func197,ntmps197;go_wp2_with fail;refine e.bw ?_;rintro m⟨f,g⟩;go_wp2_with fail;refine(PZ _ _).cJ ?_;go_wp2_with fail;refine(gQ f _ Vd).bw ?_;rintro o⟨i,j⟩;go_wp2;go_end0;exact⟨U,dP d i (g.trans j)⟩
end
end
section
open Go.RowKit
def vh{P:Prop}(h:P:=by
 cases wd
 .exact XL Vd
 .exact XR Vd):P:=h
def tT(wd:Bool)(k:Nat)(a:k<15):Ul ((if wd then 124 else 106)+k)=wd:=by
 exact vh
def SK(a:Bool)(k:Nat)(n:k<3\/7<=k/\k<10)(h:Yx)(b:t<top a)(c:j<top a)(w:Yw):
  Yy prog 225 #[h,V Ys ((if a then 124 else 106)+k:Nat),V Yr t,V Yr j] w λr e=>(∃v,r= Yq (V Yr v)/\bU a k t j=M (v,0))/\e=w:=by
 have d:=Z (λw=>mH ((if a then 124 else 106)+k) (by split <;>omega) w);rw[tT a k Y]at d;have e:=Z (λw=>gC a b w);have f:=Z (λw=>gC a c w);have g:=Z (λx w=>C3 a x w);have i:=Z (Rx a b c);have l:=Z (Ry a b c);have m:=Z (Rz a b c);generalize bF a t=x at *;generalize bF a j=y at *;cases a;all_goals
  simp only[Vq,VL,VK,wN]at d e f g⊢;rcases(by omega :k=0\/k=1\/k=2\/k=7\/k=8\/k=9)with rfl |rfl |rfl |rfl |rfl |rfl
  all_goals
   simp only[Nat.reduceAdd]at d⊢;go_enter func225,ntmps225;go_wp2_with fail;refine(d _).cJ ?_;go_wp2_with fail;refine(e _).cJ ?_;go_wp2_with fail;refine(f _).cJ ?_;go_wp2_with fail;try
    refine(g _ _).cJ ?_;go_wp2
   go_ret
   refine⟨⟨_,U,?_⟩,U⟩;simp only[bU];try simp only[i.out,l.out,m.out]
def SL(wd:Bool)(k:Nat)(a:k<10):Ul ((if wd then 81 else 70)+k)=wd:=by
 exact vh
def Fm(a:Bool)(k:Nat)(g:k<10)(h:t<top a)(i:j<top a)(w:Yw):
  fX 224 #[V Ys ((if a then 81 else 70)+k:Nat),V Yr t,V Yr j] w (V Yr (truth (eU a k t j))):=by
 have c:=Z (λw=>mH ((if a then 81 else 70)+k) (by split <;>omega) w);rw[SL a k g]at c;have d:=Z (λw=>gC a h w);have f:=Z (λw=>gC a i w);obtain⟨R,b⟩:=bL (truth (eU a k t j));obtain⟨x,l⟩:=bL (bF a t);obtain⟨y,m⟩:=bL (bF a j);have e:=b.symm;rw[e];unfold eU at b;rw[<-l]at d b;rw[<-m]at f b;clear l m h i;cases a;all_goals
  simp only[Vq,VL,VK,wN]at c d f⊢;rcases(by omega :k=0\/k=1\/k=2\/k=3\/k=4\/k=5\/k=6\/k=7\/k=8\/k=9)with rfl |rfl |rfl |rfl |rfl |rfl |rfl |rfl |rfl |rfl
  all_goals
   simp only[Nat.reduceAdd]at c⊢;simp only at b;have n:=Z b;clear b g;go_enter func224,ntmps224;go_wp2_with fail;refine(c _).cJ ?_;go_wp2_with fail;refine(d _).cJ ?_;go_wp2_with fail;refine(f _).cJ ?_;go_wp2_with fail;refine(PZ _ _).cJ ?_;go_wp2;go_ret;have b:=n.out;try simp at b
   rw[b];first |exact⟨U,U⟩|(simp;done)
def Dc(wd:Bool)(k:Nat)(a:k<3):Ul ((if wd then 121 else 103)+k)=wd:=by
 exact vh
def o8(a k:Nat)(b:a<18446744073709551616):bits BinOp.and IntKind.u64 ((a:Int)/2^k) 1=((a/2^k%2:Nat):Int):=by
 have e:a/2^k=((a/2^k:Nat):Int):=Vc
 have h:=bits_and_u64_nat (a/2^k) 1 (Xe (Nat.div_le_self _ _) b) Vb;grind
def aaf(f j x:Nat)(c:j<f)(a:2^j<=x)(b:x<2^(j+1)):Lib.bitLenAux f x=j+1:=by
 induction j generalizing f x with
 |zero=>
  obtain⟨g,rfl⟩:∃g,f=g+1:=⟨f-1,Y⟩;have e:x=1:=Y
  subst e;show 1+Lib.bitLenAux g 0=1
  cases g<;>rfl
 |succ j ih=>
  obtain⟨g,rfl⟩:∃g,f=g+1:=⟨f-1,Y⟩;rw[VO]at a;rw[VO,VO]at b;have h:=ih g (x/2) Y Y Y;show(if x=0 then 0 else 1+Lib.bitLenAux g (x/2))=_
  grind
def Qn(f k x:Nat)(c:k<f)(b:x%2^k=0)(a:x/2^k%2=1):Lib.ctzFrom f x=k:=by
 induction k generalizing f x with
 |zero=>
  obtain⟨g,rfl⟩:∃g,f=g+1:=⟨f-1,Y⟩;show(if x%2=1 then 0 else _)=0
  grind
 |succ k ih=>
  obtain⟨g,rfl⟩:∃g,f=g+1:=⟨f-1,Y⟩;rw[VO,Ww,Ye]at b;rw[VO,Ww,<-We]at a;have h:=ih g (x/2) Y Y a;show(if x%2=1 then 0 else 1+Lib.ctzFrom g (x/2))=_
  grind
def Dd(a:Bool)(b:t<2^(wN a-k))(h:k=wN a\/k<wN a/\t/2^(wN a-1-k)%2=1):dG a 0 t=k:=by
 have d:wN a<=64:=by cases a<;>decide
 rw[sR,V9];rcases h with h|⟨h,f⟩
 .rw[h,Wr]at b;have e:t=0:=Y
  subst e;show 64 - ((Lib.bitLen 0):Int)-_=_
  rw[show Lib.bitLen 0=0 from U];omega
 .have c:2^(wN a-1-k)<=t:=by
   grind[Nat.div_eq_of_lt]
  have e:=aaf 64 _ t Y c Ve;show 64 - ((Lib.bitLenAux 64 t):Int)-_=_
  omega
def xn(a:Bool)(c:t<2^wN a)(b:t%2^k=0)(h:k=wN a\/k<wN a/\t/2^k%2=1):dG a 1 t=k:=by
 have f:wN a<=64:=by cases a<;>decide
 rw[sS,V9];rcases h with h|⟨h,d⟩
 .rw[h,VT c]at b;subst b;rw[show Lib.ctz 64 0=64 from U];omega
 .have e:=Qn 64 k t Y b d;have g:t≠0:=λe=>by grind[Nat.zero_div]
  unfold Lib.ctz;grind
def aag(a:Bool)(b:k<2^wN a):dG a 2 k=(fe (wN a) k:Nat):=by
 rw[sT];cases a
 .have c:k<4294967296:=b;rw[Ae k Y];show((fe (32+32) k:Nat):Int)=_
  rw[Ky (n:=32) b];rfl
 .exact Ae k b
def S2{P:Prop}(h:P:=by
 have d:=hb.out k;have e:=od k a;have b:(fe k a)+a/2^k%2=((fe (k+1) a:Nat):Int):=by rw[N5 k a];push_cast;rfl
 have c:=Z b;clear b;go_wp2;exact⟨⟨k+1,Y,by rw[c.out],by go_num,trivial⟩,by simp[intOf];omega⟩):P:=h
theorem Te(b:Bool){a:Nat}(h:a<top b)(w:Yw):
  fX 223 #[V Ys ((if b then 121 else 103)+2:Nat),V Yr a] w (V Yr (dG b 2 a)):=by
 have d:=Z (λw=>mH ((if b then 121 else 103)+2) (by split <;>omega) w);rw[Dc b 2 Vb]at d;have f:a<18446744073709551616:=by cases b<;>simp[top]at h<;>omega
 have hb:=Z (λk=>o8 a k f);have l:a<2^wN b:=by cases b<;>exact h
 rw[aag b l];cases b;all_goals
  simp only[Vq,VL,VK,wN,Nat.reduceAdd]at d⊢;go_enter func223,ntmps223;go_wp2_with fail;refine(d _).mono ?_;rintro e j⟨rfl,rfl⟩;go_wp2
 .go_loopw [7,10] (λc i wr=> ∃k:Nat,k<=32/\c= V Yr (fe k a:Nat)/\i= V O k/\wr=j) (λ_ i _=>32 - (intOf i).toNat)
  case atStart=>exact⟨0,Y,U,U,U⟩
  case round=>
   obtain⟨k,m,rfl,rfl,rfl⟩:=hrel;by_cases g:k<32
   .exact S2
   .have e:k=32:=Y
    subst e;go_wp2;go_ret;exact⟨U,U⟩
 .go_loopw [7,10] (λc i wr=> ∃k:Nat,k<=64/\c= V Yr (fe k a:Nat)/\i= V O k/\wr=j) (λ_ i _=>64 - (intOf i).toNat)
  case atStart=>exact⟨0,Y,U,U,U⟩
  case round=>
   obtain⟨k,m,rfl,rfl,rfl⟩:=hrel;by_cases g:k<64
   .exact S2
   .have e:k=64:=Y
    subst e;go_wp2;go_ret;exact⟨U,U⟩
def Bu{P:Prop}(h:P:=by
 have b:a/2^k%2=0:=Y
 rw[b]at h1;go_wp2_with(simp only[h1]);refine⟨⟨k+1,Y,by go_num,by go_num,Z (by rw[VO,Ye,hz.out,b];omega),trivial⟩,by simp[intOf];omega⟩):P:=h
theorem Qo(d:Bool){a:Nat}(m:a<top d)(w:Yw):
  fX 223 #[V Ys ((if d then 121 else 103)+1:Nat),V Yr a] w (V Yr (dG d 1 a)):=by
 have j:=Z (λw=>mH ((if d then 121 else 103)+1) (by split <;>omega) w);rw[Dc d 1 Vb]at j;have l:a<18446744073709551616:=by cases d<;>simp[top]at m<;>omega
 have n:=Z (λk=>o8 a k l);have h:a<2^wN d:=by cases d<;>exact m
 obtain⟨R,g⟩:=bL (dG d 1 a);rw[<-g];cases d;all_goals
  simp only[Vq,VL,VK,wN,Nat.reduceAdd]at j⊢;go_enter func223,ntmps223;go_wp2_with fail;refine(j _).mono ?_;rintro e o⟨rfl,rfl⟩;go_wp2
 .go_loopw [7,9] (λc i wr=> ∃k:Nat,k<=32/\c= V Yr (k:Nat)/\i= V O k/\Hid (a%2^k=0)/\wr=o) (λ_ i _=>32 - (intOf i).toNat)
  case atStart=>exact⟨0,Y,U,U,Z (Yd a),U⟩
  case round=>
   obtain⟨k,p,rfl,rfl,hz,rfl⟩:=hrel;by_cases f:k<32
   .have h1:=n k;by_cases b:a/2^k%2=1
    .rw[b]at h1;go_wp2_with(simp only[h1]);go_ret;exact⟨by rw[g,xn Yj h hz.out (Yp ⟨f,b⟩)];rfl,U⟩
    .exact Bu
   .have e:k=32:=Y
    subst e;go_wp2;go_ret;exact⟨by rw[g,xn Yj h hz.out (Yo U)];rfl,U⟩
 .go_loopw [7,9] (λc i wr=> ∃k:Nat,k<=64/\c= V Yr (k:Nat)/\i= V O k/\Hid (a%2^k=0)/\wr=o) (λ_ i _=>64 - (intOf i).toNat)
  case atStart=>exact⟨0,Y,U,U,Z (Yd a),U⟩
  case round=>
   obtain⟨k,p,rfl,rfl,hz,rfl⟩:=hrel;by_cases f:k<64
   .have h1:=n k;by_cases b:a/2^k%2=1
    .rw[b]at h1;go_wp2_with(simp only[h1]);go_ret;exact⟨by rw[g,xn Yk h hz.out (Yp ⟨f,b⟩)];rfl,U⟩
    .exact Bu
   .have e:k=64:=Y
    subst e;go_wp2;go_ret;exact⟨by rw[g,xn Yk h hz.out (Yo U)];rfl,U⟩
theorem Tf(g:Bool)(z:t<top g)(w:Yw):
  fX 223 #[V Ys ((if g then 121 else 103)+0:Nat),V Yr t] w (V Yr (dG g 0 t)):=by
 have r:=Z (λw=>mH ((if g then 121 else 103)+0) (by split <;>omega) w);rw[Dc g 0 Vb]at r;have s:t<18446744073709551616:=by cases g<;>simp[top]at z<;>omega
 have A:=Z (λk=>o8 t k s);have B:t<2^wN g:=by cases g<;>exact z
 obtain⟨R,o⟩:=bL (dG g 0 t);rw[<-o];cases g;all_goals
  simp only[Vq,VL,VK,wN,Nat.reduceAdd]at r⊢;go_enter func223,ntmps223;go_wp2_with fail;refine(r _).mono ?_;rintro e C⟨rfl,rfl⟩;go_wp2
 .go_loopw [7,8] (λc i wr=> ∃k:Nat,k<=32/\c= V Yr (k:Nat)/\i= V O (32-1-k:Int)/\Hid (t<2^(32-k))/\wr=C) (λ_ i _=>(intOf i+1).toNat)
  case atStart=>exact⟨0,Y,U,U,B,U⟩
  case round=>
   obtain⟨k,D,rfl,rfl,l,rfl⟩:=hrel;by_cases m:k<32
   .obtain⟨j,b⟩:=bL (32-1-k:Nat);have ej:(32-1-k:Int)=j:=Y
    rw[ej];have h:=A j;by_cases d:t/2^j%2=1
    .rw[d]at h;have n:j<32:=Y
     replace b:=Z b;go_wp2_with(simp only[h]);go_ret;exact⟨by rw[o,Dd Yj l.out (Yp ⟨m,by rw[show wN Yj-1-k=j from b.symm];exact d⟩)];rfl,U⟩
    .have f:t/2^j%2=0:=Y
     rw[f]at h;have a:t<2^(32 - (k+1)):=by
      have p:=l.out;rw[show 32 - (k+1)=j by omega];rw[show 32-k=j+1 by omega,VO]at p;have u:=WY p;have v:=f;have x:t/2^j=0:=by
       generalize t/2^j=q at u v;omega
      exact(XN (Wa j)).mp x
     have y:=Z b;have n:j<32:=Y
     clear b;replace a:=Z a;go_wp2_with(simp only[h]);have b:=y.out;refine⟨⟨k+1,Y,by go_num,?_,a,trivial⟩,by simp[intOf]⟩;congr 1;omega
   .have e:k=32:=Y
    subst e;go_wp2;go_ret;exact⟨by rw[o,Dd Yj l.out (Yo U)]<;>rfl,U⟩
 .go_loopw [7,8] (λc i wr=> ∃k:Nat,k<=64/\c= V Yr (k:Nat)/\i= V O (64-1-k:Int)/\Hid (t<2^(64-k))/\wr=C) (λ_ i _=>(intOf i+1).toNat)
  case atStart=>exact⟨0,Y,U,U,B,U⟩
  case round=>
   obtain⟨k,D,rfl,rfl,l,rfl⟩:=hrel;by_cases m:k<64
   .obtain⟨j,b⟩:=bL (64-1-k:Nat);have ej:(64-1-k:Int)=j:=Y
    rw[ej];have h:=A j;by_cases d:t/2^j%2=1
    .rw[d]at h;have n:j<64:=Y
     replace b:=Z b;go_wp2_with(simp only[h]);go_ret;exact⟨by rw[o,Dd Yk l.out (Yp ⟨m,by rw[show wN Yk-1-k=j from b.symm];exact d⟩)];rfl,U⟩
    .have f:t/2^j%2=0:=Y
     rw[f]at h;have a:t<2^(64 - (k+1)):=by
      have p:=l.out;rw[show 64 - (k+1)=j by omega];rw[show 64-k=j+1 by omega,VO]at p;have u:=WY p;have v:=f;have x:t/2^j=0:=by
       generalize t/2^j=q at u v;omega
      exact(XN (Wa j)).mp x
     have y:=Z b;have n:j<64:=Y
     clear b;replace a:=Z a;go_wp2_with(simp only[h]);have b:=y.out;refine⟨⟨k+1,Y,by go_num,?_,a,trivial⟩,by simp[intOf]⟩;congr 1;omega
   .have e:k=64:=Y
    subst e;go_wp2;go_ret;exact⟨by rw[o,Dd Yk l.out (Yo U)]<;>rfl,U⟩
end
end Go.Proofs.YtdeplgkhmebalaaGreatDoor
