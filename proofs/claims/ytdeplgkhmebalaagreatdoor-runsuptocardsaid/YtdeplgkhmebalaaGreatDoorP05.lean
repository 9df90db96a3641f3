/- The document's run: what is its own, each part in a block of its own. -/
import Derived.Test.YtdeplgkhmebalaaGreatDoorP01
set_option linter.all false
set_option maxHeartbeats 4000000
set_option maxRecDepth 100000
variable{X:Go.World}{n a N q B c d m p r:Nat}{u z:Go.Value}{y:Int}{D l:List UInt8}{L:List Int}{g:UInt8}{F:List Go.Value}{P R:Nat->Prop}{T:Go.TypeId}
namespace Go.Proofs.YtdeplgkhmebalaaGreatDoor
open Bool renaming false->Yj,true->Yk
open Except renaming error->Ym,ok->Yn
open Go renaming Calls->Yy,Value->Yx,World->Yw
open Go.Ending renaming returned->Yq
open Go.IntKind renaming i64->O,u64->Yr,u8->Ys
open Go.Obj renaming cells->Yl
open Go.Value renaming bool->Yt,int->V,pointer->Yv,slice->Q,tuple->Yu
open Option renaming none->H,some->M
open Or renaming inl->Yo,inr->Yp
open Proofs.Tryz
variable{s:ez}
section
open Go.RowKit
inductive jr
 |none
 |dT (b:Nat) (cs:Array Value) (t:TypeId)
 |row (t:TypeId) (v:Value) (xs:List Value)
def jr.az:jr->Option Nat
 |.none=>Option.none
 |.dT b _ _=>M b
 |.row _ v _=>v.ownBlock
def jr.At(w:Yw):jr->Prop
 |.none=>True
 |.dT b cs t=>w.heap[b]?=M (Yl cs t)
 |.row t v xs=>w.ownsRow 0 t 1 v xs.length xs
abbrev iM(lo:Nat->Prop):Nat->Prop:=λb=> ¬lo b
structure Hp(lo:Nat->Prop)(w:Yw)(I:Nat->jr):Prop where
 dY:∀i,(I i).At w
 ap:∀i j b,(I i).az=M b->(I j).az=M b->i=j
 low:∀i b,(I i).az=M b-> ¬lo b
 zV:∀b,lo b->b<w.heap.size
def yT(I:Nat->jr)(i:Nat)(x:jr):Nat->jr:=λj=>if j=i then x else I j
section
variable{t':TypeId}{S lo lo':Nat->Prop}{w w' W w5:World}{I:Nat->jr}{x:jr}{i j b o k:Nat}{t:TypeId}{v v':Value}{xs:List Value}{cs:Array Value}
theorem zW:yT I i x i=x:=Vi U
def Cf(h:j≠i):yT I i x j=I j:=Va h
theorem jr.At.kp(h:x.At w)(k:Kp S w w')(a:∀b,x.az=M b-> ¬S b):x.At w':=by
 cases x with
 |none=>trivial
 |dT b cs t=>exact k.az h (a b U)
 |row t v xs=>exact k.own h a
theorem jr.At.lt(h:x.At w)(a:x.az=M b):b<w.heap.size:=by
 cases x with
 |none=>cases a
 |dT b cs t=>cases a;exact au h
 |row t v xs=>exact bR h a
def zX{P:Prop}(h:P:=by
 by_cases e1:J j1<;>by_cases e2:J j2
 .grind
 .grind
 .grind
 .rw[hI _ e1]at h1;rw[hI _ e2]at h2;exact h.ap _ _ _ h1 h2):P:=h
def Hp.yU{a:Nat->jr}(h:Hp lo w I)(J:Nat->Prop)(k:Kp (λb=> ∃i,J i/\(I i).az=M b) w w')(hI:∀i,¬J i->a i=I i)(l:∀i,J i->(a i).At w')
  (f:∀i b,J i->(a i).az=M b->(I i).az=M b\/((∀j,(I j).az≠M b)/\ ¬lo b))(m:∀i j b,J i->J j->(a i).az=M b->(a j).az=M b->i=j):Hp lo w' a:=by
 have g:∀i j b,J i-> ¬J j->(a i).az=M b->(I j).az=M b->False:=λi j b hi c h1 h2=>by
  rcases f i b hi h1 with d|d
  .exact c (h.ap _ _ _ h2 d▸hi)
  grind
 refine⟨λj=>?_,λj1 j2 b h1 h2=>?_,λj b h1 e=>?_,λb e=>Vm (h.zV b e) k.size⟩
 .by_cases c:J j
  .grind
  .rw[hI j c];exact(h.dY j).kp k (λb h1 ⟨i,h2,d⟩=>c (h.ap _ _ _ h1 d▸h2))
 .exact zX
 .by_cases c:J j
  .rcases f j b c h1 with d|d
   .exact h.low _ _ d e
   grind
  .rw[hI _ c]at h1;exact h.low _ _ h1 e
theorem Hp.fresh(h:Hp lo w I)(c:w.heap.size<=b):(∀j,(I j).az≠M b)/\ ¬lo b:=⟨λj e=>cj ((h.dY j).lt e),λa=>cj (h.zV b a)⟩
def Hp.set(h:Hp lo w I)(i:Nat)(k:Kp (λb=>(I i).az=M b) w w')(d:x.At w')(f:∀b,x.az=M b->(I i).az=M b\/w.heap.size<=b):Hp lo w' (yT I i x):=
 h.yU (λj=>j=i) (k.mono (λb _ e=>⟨i,U,e⟩)) (λj a=>Cf a) (λj a=>by grind[zW]) (λj b a e=>by
  grind[zW,fresh]) (λe g b a c _ _=>by rw[a,c])
def Hp.quiet(h:Hp lo w I)(k:Kp no w w'):Hp lo w' I:=⟨λj=>(h.dY j).kp k bW,h.ap,h.low,λb a=>Vm (h.zV b a) k.size⟩
theorem Hp.up(h:Hp lo w I)(i:Nat)(k:Kp (λb=>(I i).az=M b) w w'):Kp (iM lo) w w':=k.mono (λ_ _ a c=>h.low i _ a c)
def Hp.fld(h:Hp lo w I)(i:Nat)(hi:I i=.dT b cs t)(o:Nat)(u:Yx):Hp lo (w.setCell ⟨b,o,H⟩ u) (yT I i (.dT b (cs.setIfInBounds o u) t))/\Kp (iM lo) w (w.setCell ⟨b,o,H⟩ u):=by
 have a:=h.dY i;rw[hi]at a;have k:Kp (λb=>(I i).az=M b) w (w.setCell ⟨b,o,H⟩ u):=(Kp.refl _ w).bE (by rw[hi];rfl) o u;exact⟨h.set i k (heap_setCell a u) (λd c=> Yo (by rw[hi];exact c)),h.up i k⟩
theorem Hp.cell(h:Hp lo w I)(i:Nat)(hi:I i=.row t v xs)(c:v.ownBlock=M b)(k:Nat)(u:Yx):Hp lo (w.setCell ⟨b,k,H⟩ u) (yT I i (.row t v (xs.set k u)))/\Kp (iM lo) w (w.setCell ⟨b,k,H⟩ u):=by
 have a:=h.dY i;rw[hi]at a;have l:Kp (λb=>(I i).az=M b) w (w.setCell ⟨b,k,H⟩ u):=(Kp.refl _ w).bE (by rw[hi];exact c) k u;refine⟨h.set i l ?_ (λe d=> Yo (by rw[hi];exact d)),h.up i l⟩;show World.ownsRow _ 0 t 1 v (xs.set k u).length (xs.set k u)
 rw[VW];have d:=a;obtain⟨r,⟨rfl,s⟩|⟨g,e,f,rfl,m,n,p,q,y,z⟩⟩:=d
 .cases c
 .cases c;refine⟨Vc,Yp ⟨g,e,f.setIfInBounds k u,U,m,heap_setCell n u,p,q,Ve,?_⟩⟩;grind[List.take_set]
def Hp.grow(h:Hp lo w I)(i p:Nat)(a:i≠p)(hi:I i=.row t v xs)(l:I p=.dT b cs t')(d:Kp no w W){ys:List Yx}(m:n=ys.length)(q:w5.ownsRow 0 t 1 v' n ys)(r:Kp (λb=>v.ownBlock=M b) W w5)(s:∀b,v'.ownBlock=M b->v.ownBlock=M b\/W.heap.size<=b)(o:Nat):
  Hp lo (w5.setCell ⟨b,o,H⟩ v') (yT (yT I i (.row t v' ys)) p (.dT b (cs.setIfInBounds o v') t'))/\Kp (iM lo) w (w5.setCell ⟨b,o,H⟩ v'):=by
 subst m;have e:=h.quiet d;have f:Kp (λb=>(I i).az=M b) W w5:=by rw[hi];exact r
 have u:=e.set (x:=.row t v' ys) i f q (λy c=>by rw[hi];exact s y c);have g:=u.fld p (by rw[Cf (WZ a)];exact l) o v';exact⟨g.1,(d.any.trans (e.up i f)).trans g.2⟩
theorem nu(c:W.grownBy w5 v.ownBlock)(a:v'.ownBlock=v.ownBlock\/v'.ownBlock=M W.heap.size):Kp (λb=>v.ownBlock=M b) W w5/\ ∀b,v'.ownBlock=M b->v.ownBlock=M b\/W.heap.size<=b:=
 ⟨(Kp.refl _ W).bS c (λ_ a=> Yo a),λb e=>a.imp (λh=>Ve) (λh=>Ve)⟩
def Hp.guard(h:Hp lo w I)(k:Kp no w w')(P:Nat->Prop)(e:∀b,P b->w.heap.size<=b/\b<w'.heap.size):Hp (λb=>lo b\/P b) w' I:=
 ⟨(h.quiet k).dY,h.ap,λi b c a=>a.elim (h.low i b c) (λd=>by have:=(h.dY i).lt c;grind),λb a=>a.elim ((h.quiet k).zV b) (λd=>(e b d).2)⟩
def Hp.free(h:Hp (λb=>lo b\/P b) w I):Hp lo w I:=⟨h.dY,h.ap,λi b c a=>h.low i b c (Yo a),λb a=>h.zV b (Yo a)⟩
def fP(k:Kp (iM (λb=>lo b\/P b)) w w'):Kp (iM lo) w w':=k.mono (λ_ _ h a=>h (Yo a))
end
end
namespace Rf
section
open Go.RowKit
def B7(v:Yx)(l:List UInt8):Option Nat:=if l=[]then H else v.ownBlock
def eJ(w:Yw)(v:Yx)(l:List UInt8):Prop:=(∃ad cap,v= Q ad l.length cap/\l.length<=cap)/\(l≠[]->aq w v l)
theorem eJ.aJ(h:eJ X u l):∃b a,u= Q b l.length a/\l.length<=a:=h.1
theorem eJ.of(h:aq X u l):eJ X u l:=⟨aw.aJ h,λ_=>h⟩
theorem eJ.kp{S:Nat->Prop}{w':Yw}(h:eJ X u l)(k:Kp S X w')(a:∀b,B7 u l=M b-> ¬S b):eJ w' u l:=
 ⟨h.1,λc=>(h.2 c).kp k (λb d=>a b (by simp_all[B7]))⟩
theorem eJ.get(h:eJ X u l){k:Nat}(c:k<l.length):∃a o b,u= Q (M ⟨a,o,H⟩) l.length b/\l.length<=b/\X.cell? ⟨a,o+k,H⟩=M (V Ys (l.getD k 0).toNat):=
 aq.get (h.2 (λe=>Ve)) c
structure PE where
 m:Yx
 data:List UInt8
 b:Yx
 en:Nat
 jG:Yx
 d:Int
abbrev PS:=Except (Int×Int) Nat
abbrev PE.dT(E:PE)(i err pl:Int):Obj:= Yl #[E.m,E.b,V O i,V O (E.en:Int),V O err,V O pl,E.jG,V O E.d] 236
structure dR(w:Yw)(pb:Nat)(E:PE)(σ:PS):Prop where
 ok:∀i,σ= Yn i->i<=E.en/\w.heap[pb]?=M (E.dT i 0 0)
 bad:∀e dY,σ= Ym (e,dY)->e≠0/\ ∃i:Nat,i<=2000/\w.heap[pb]?=M (E.dT i e dY)
 bytes:eJ w E.b E.data
 low:∀k,B7 E.b E.data=M k->k<pb
 len:E.data.length<=2000
 en:E.en<=E.data.length
def cA(e dY:Int):PS->PS
 | Yn _=> Ym (e,dY)
 | Ym x=> Ym x
def bn:PS->Bool
 | Yn _=>Yj
 | Ym _=>Yk
def b8(E:PE):PS->UInt8×PS
 | Yn i=>if E.en<=i then (0,Ym (2,E.en))else (E.data.getD i 0,Yn (i+1))
 | Ym x=>(0,Ym x)
abbrev ptr(b:Nat):Value:= Yv (M ⟨b,0,H⟩)
theorem dR.kp{w':Yw}{E:PE}{f a:PS}(h:dR X n E f)(k:Kp (one n) X w')
  (c:∀i,a= Yn i->i<=E.en/\w'.heap[n]?=M (E.dT i 0 0))(d:∀e b,a= Ym (e,b)->e≠0/\ ∃i:Nat,i<=2000/\w'.heap[n]?=M (E.dT i e b)):dR w' n E a:=
 ⟨c,d,h.bytes.kp k (λb g e=>by have:=h.low b g;grind[one]),h.low,h.len,h.en⟩
def dR.keep{w':Yw}{E:PE}{d:PS}(h:dR X n E d)(k:Kp P X w')(hS:∀k,k<=n-> ¬P k):dR w' n E d:=
 ⟨λi hi=>⟨(h.ok i hi).1,k.az (h.ok i hi).2 (hS _ cQ)⟩,λe a b=>by
  obtain⟨f,i,hi,c⟩:=h.bad e a b;exact⟨f,i,hi,k.az c (hS _ cQ)⟩,h.bytes.kp k (λb c=>hS b (Xp (h.low b c))),h.low,h.len,h.en⟩
def uk{E:PE}{err pl:Int}(a:X.heap[n]?=M (E.dT y err pl)):
  fX 118 #[ptr n] X (Yt (err !=0)):=by
 obtain⟨b,-⟩:=ae a;go_enter func118,ntmps118;go_wp2;go_ret;exact⟨U,U⟩
def bz{E:PE}{b:PS}(h:dR X n E b):
  fX 118 #[ptr n] X (Yt (bn b)):=by
 match b,h with
 | Yn i,h=>exact uk (h.ok i U).2
 | Ym (e,a),h=>
  obtain⟨d,i,-,c⟩:=h.bad e a U;refine(uk c).mono ?_;simp_all[bn]
def II{E:PE}{pl:Int}(e a:Int)(b:X.heap[n]?=M (E.dT y 0 pl)):
  df 120 #[ptr n,V O e,V O a] X (Yu #[]) λc=>c.heap[n]?=M (E.dT y e a)/\Kp (one n) X c:=by
 obtain⟨d,f⟩:=ae b;go_enter func120,ntmps120;go_wp2;go_end0;exact⟨U,heap_setCell (heap_setCell b _) _,((Kp.refl (one n) _).bK _ _).bK _ _⟩
def DF{E:PE}{err pl:Int}(e a:Int)(b:X.heap[n]?=M (E.dT y err pl))(c:err≠0):
  fX 120 #[ptr n,V O e,V O a] X (Yu #[]):=by
 obtain⟨f,g⟩:=ae b;have d:(err==0)=false:=by simpa using c
 go_enter func120,ntmps120;go_wp2;go_end0;exact⟨U,U⟩
def dJ{E:PE}{b:PS}(h:dR X n E b)(e a:Int)(l:e≠0):
  df 120 #[ptr n,V O e,V O a] X (Yu #[]) λc=>dR c n E (cA e a b)/\Kp (one n) X c:=by
 match b,h with
 | Yn i,h=>
  obtain⟨hi,d⟩:=h.ok i U;refine(II e a d).bw ?_;rintro c⟨g,k⟩;refine⟨U,h.kp k (λj f=>by cases f) (λj m f=>?_),k⟩;cases f;grind[dR.len,dR.en]
 | Ym (c,g),h=>
  obtain⟨f,i,-,d⟩:=h.bad c g U;refine(DF e a d f).cJ ?_;exact⟨U,h,iR⟩
def Ra{E:PE}(h:dR X n E (Yn N))(hi:N<E.en):
  df 186 #[ptr n] X (V Ys (E.data.getD N 0).toNat) λf=>f.heap[n]?=M (E.dT (N+1:Nat) 0 0)/\Kp (one n) X f:=by
 obtain⟨-,g⟩:=h.ok N U;obtain⟨i,r⟩:=ae g;have s:=h.len;have j:=h.en;have b:N<E.data.length:=Y
 obtain⟨a,o,l,d,m,p⟩:=h.bytes.get (k:=N) Y;have q:a≠n:=Nat.ne_of_lt (h.low a (by unfold B7;rw[Va (λe=>by rw[e]at b;exact absurd b (Wo _)),d];rfl));rw[d]at i;generalize E.data.getD N 0=c at *;generalize E.data.length=t at *;go_enter func186,ntmps186;go_wp2;go_quiet(fail);go_wp2_with(go_at_call 118;refine(uk (by exact g)).mono ?_;rintro e f⟨rfl,rfl⟩);go_quiet(fail);go_wp2;go_ret;exact⟨U,heap_setCell g _,(((Kp.refl (one n) X).drewN _).bK _ _).drewN _⟩
def M5{E:PE}(h:dR X n E (Yn a))(hi:E.en<=a):
  df 186 #[ptr n] X (V Ys 0) λb=>b.heap[n]?=M (E.dT a 2 E.en)/\Kp (one n) X b:=by
 obtain⟨-,c⟩:=h.ok a U;obtain⟨g,i⟩:=ae c;go_enter func186,ntmps186;go_wp2;go_quiet(fail);go_wp2_with fail;refine(II _ _ (by exact c)).bw ?_;rintro j⟨b,d⟩;obtain⟨e,f⟩:=ae b;go_wp2_with fail;refine(uk (by exact b)).cJ ?_;go_wp2;go_ret;exact⟨U,b,((Kp.refl (one n) X).drewN _).trans d⟩
def M7{E:PE}{dY:Int}(b:X.heap[n]?=M (E.dT a y dY))(d:y≠0):
  df 186 #[ptr n] X (V Ys 0) λc=>c.heap[n]?=M (E.dT a y dY)/\Kp (one n) X c:=by
 obtain⟨f,g⟩:=ae b;have e:(y !=0)=true:=by simpa using d
 by_cases hi:E.en<=a
 .go_enter func186,ntmps186;go_wp2;go_quiet(fail);go_wp2_with(first |(go_at_call 118;refine(uk (by exact b)).mono ?_;rintro y c⟨rfl,rfl⟩)|(go_at_call 120;refine(DF _ _ (by exact b) d).mono ?_;rintro y c⟨rfl,rfl⟩));go_ret;exact⟨U,b,(Kp.refl (one n) X).drewN _⟩
 .go_enter func186,ntmps186;go_wp2;go_quiet(fail);go_wp2_with(go_at_call 118;refine(uk (by exact b)).mono ?_;rintro y c⟨rfl,rfl⟩);go_ret;exact⟨U,b,(Kp.refl (one n) X).drewN _⟩
def sy{E:PE}{d:PS}(h:dR X n E d):
  df 186 #[ptr n] X (V Ys (b8 E d).1.toNat) λc=>dR c n E (b8 E d).2/\Kp (one n) X c:=by
 match d,h with
 | Yn i,h=>
  by_cases hi:E.en<=i
  .refine(M5 h hi).bw ?_;rintro c⟨f,k⟩;refine⟨by simp[b8,hi],h.kp k (λj b=>by grind[b8]) (λe a b=>?_),k⟩;simp[b8,hi]at b;obtain⟨rfl,rfl⟩:=b;exact⟨Vb,i,by have:=(h.ok i U).1;grind[dR.en,dR.len],f⟩
  .refine(Ra h Y).bw ?_;rintro c⟨f,k⟩;refine⟨by grind[b8],h.kp k (λj b=>?_) (λe a b=>by grind[b8]),k⟩;grind[b8]
 | Ym (e,a),h=>
  obtain⟨g,i,hi,f⟩:=h.bad e a U;refine(M7 f g).bw ?_;rintro c⟨l,k⟩;refine⟨by simp[b8],h.kp k (λj b=>by grind[b8]) (λj m b=>?_),k⟩;simp[b8]at b;grind
def PS.place:PS->Int
 | Yn i=>i
 | Ym _=>0
theorem dR.dT{E:PE}{b:PS}(h:dR X n E b):∃(i:Nat) (a c:Int),i<=2000/\X.heap[n]?=M (E.dT i a c)/\((i:Int)=b.place\/bn b=Yk)/\(a !=0)=bn b:=by
 match b,h with
 | Yn i,h=>
  obtain⟨hi,c⟩:=h.ok i U;exact⟨i,0,0,by grind[len,en],c,Yo U,U⟩
 | Ym (e,a),h=>
  obtain⟨d,i,hi,c⟩:=h.bad e a U;exact⟨i,e,a,hi,c,Yp U,by grind[bn]⟩
theorem je{b:PS}(h:bn b=Yk)(e a:Int):cA e a b=b:=by
 cases b with
 |ok i=>cases h
 |error x=>rfl
def jH{b a:PS}(h:y=b.place\/bn b=Yk)(c:bn b=Yk->bn a=Yk)(e:Int):cA e y a=cA e b.place a:=by
 rcases h with rfl |h<;>grind[je]
theorem kG{E:PE}{a:PS}(h:bn a=Yk):b8 E a=(0,a):=by
 cases a with
 |ok i=>cases h
 |error x=>rfl
def cB(E:PE)(a b c:UInt8)(σ:PS):UInt8×PS:=
 let r:=b8 E σ
 (r.1,if r.1≠a/\r.1≠b/\r.1≠c then cA 2 σ.place r.2 else r.2)
def mY(x a:UInt8):((x.toNat:Int) !=(a.toNat:Int))= !(x==a):=by
 rw[bne,V4];grind[UInt8.toNat_inj]
theorem lH(x a:UInt8):((x.toNat:Int)==(a.toNat:Int))=(x==a):=by
 rw[V4];grind[UInt8.toNat_inj]
def oZ{E:PE}{d:PS}(h:dR X n E d)(a b c:UInt8):
  df 157 #[ptr n,V Ys a.toNat,V Ys b.toNat,V Ys c.toNat] X (V Ys (cB E a b c d).1.toNat) λe=>dR e n E (cB E a b c d).2/\Kp (one n) X e:=by
 obtain⟨i,s,A,hi,t,u,-⟩:=h.dT;obtain⟨B,-⟩:=ae t;have o:=sy h;have j:bn d=Yk->bn (b8 E d).2=true:=λf=>by rw[kG f];exact f
 have k:=λe=>jH u j e
 have v:cB E a b c d=((b8 E d).1,if (b8 E d).1≠a/\(b8 E d).1≠b/\(b8 E d).1≠c then cA 2 i (b8 E d).2 else (b8 E d).2):=by rw[k];rfl
 rw[v];generalize(b8 E d).1=x at *;generalize(b8 E d).2=w at *;have p:=mY x a;have q:=mY x b;have y:=mY x c;by_cases e:x≠a/\x≠b/\x≠c
 .rw[Vi e];simp only[show(x==a)=Yj by simpa using e.1,show(x==b)=Yj by simpa using e.2.1,show(x==c)=Yj by simpa using e.2.2]at p q y;go_enter func157,ntmps157;go_wp2_with fail;refine o.bw ?_;rintro z⟨e,g⟩;go_wp2_with fail;refine(dJ e _ _ Vb).bw ?_;rintro m⟨f,l⟩;go_wp2;go_ret;exact⟨U,f,g.trans l⟩
 .rw[Va e];go_enter func157,ntmps157;go_wp2_with fail;refine o.bw ?_;rintro z⟨f,g⟩;by_cases l:x=a
  .subst l;go_wp2;go_ret;exact⟨U,f,g⟩
  .simp only[show(x==a)=Yj by simpa using l]at p;by_cases m:x=b
   .subst m;go_wp2;go_ret;exact⟨U,f,g⟩
   .simp only[show(x==b)=Yj by simpa using m]at q;by_cases r:x=c
    .subst r;go_wp2;go_ret;exact⟨U,f,g⟩
    .exact absurd ⟨l,m,r⟩ e
def dD(l:List Bool)(from_:Nat)(like:Bool):Bool:=(l.drop from_).all (λb=>b==like)
def JT{l:List Bool}(b:n<l.length)(a:Bool):dD l n a=((l.getD n Yj==a)&&dD l (n+1) a):=by
 grind[dD,List.drop_eq_getElem_cons]
def M8{l:List Bool}(b:l.length<=n)(a:Bool):dD l n a=true:=by
 grind[dD,List.drop_of_length_le]
theorem M9{l:List Bool}(h:lh X u l)(q:l.length<=1000)(j:Nat)(r:j<=1000)(b:Bool):
  fX 188 #[u,V O j,Yt b] X (Yt (dD l j b)):=by
 obtain⟨s,f,d,g⟩:=h.aJ;subst d;go_enter func188,ntmps188;go_wp2;go_loop [7] (λi=> ∃k:Nat,j<=k/\k<=1000/\i= V O k/\dD l k b=dD l j b) (λi=>1000 - (intOf i).toNat);case atStart=>grind
 case round=>
  obtain⟨k,i,t,rfl,v⟩:=hrel;by_cases c:k<l.length
  .obtain⟨a,o,m,d,_,n⟩:=lh.get h c;simp only[Vz]at d;obtain⟨rfl,-,rfl⟩:=d;have w:=JT c b;generalize y:l.getD k Yj=x at *;by_cases e:x=b
   .subst e;go_wp2;go_round;case rel=>exact⟨k+1,Y,Y,by go_num,Ve⟩
    case measure=>grind[intOf]
   .have z:(x==b)=false:=Ve
    have p:(x !=b)=true:=Ve
    go_wp2;go_ret;simp_all
  .go_wp2;go_ret;simp_all[M8]
def JU:(Tryz.prog.info? 4).map (λi=>(i.zero,i.size,i.bytes))=M (M (Yt Yj),1,1):=Vf
def bA(c:UInt8):List Bool:=(List.range 7).map λk=>c.toNat.testBit k
def gT(E:PE)(dY:Int):Nat->List Bool->PS->List Bool×PS
 |0,_,σ=>([],cA 2 dY σ)
 |r+1,bits,σ=>
  let x:=b8 E σ
  if bn x.2 then ([],x.2)else
  if 128<=x.1 then gT E dY r (bits++bA x.1) x.2 else (bits++bA x.1,x.2)
def bH(E:PE)(most:Nat)(σ:PS):List Bool×PS:=gT E σ.place most [] σ
def lenOf:Yx->Nat
 | Q _ n _=>n
 |_=>0
def Rc:∀(x:Fin 256) (j:Fin 7),(Go.bits BinOp.and IntKind.u8 ((x.val:Int)/2^j.val) 1==1)=x.val.testBit j.val:=by decide +kernel
def o8(x:UInt8)(j:Nat)(a:j<7):(Go.bits BinOp.and IntKind.u8 ((x.toNat:Int)/2^j) 1==1)=x.toNat.testBit j:=Rc ⟨x.toNat,x.toNat_lt⟩ ⟨j,a⟩
def F1(x:UInt8)(j:Nat)(a:j<7):(bA x).take (j+1)=(bA x).take j++[x.toNat.testBit j]:=by
 grind[List.take_succ_eq_append_getElem,bA]
theorem jn(x:UInt8):(bA x).length=7:=by simp[bA]
def F2:∃i,Tryz.prog.info? 4=M i/\i.zero=M (Yt Yj)/\i.size=1/\i.bytes=1:=info_parts JU
def xu{E:PE}{f:PS}(h:dR X n E f)(b:Nat)(hm:b<=10)(T:0<b):
  Yy prog 187 #[ptr n,V O b] X λr a=> ∃v,r= Yq v/\lh a v (bH E b f).1/\(∀k,v.ownBlock=M k->X.heap.size<=k)/\dR a n E (bH E b f).2/\Kp (one n) X a:=by
 obtain⟨i,W,pl,hi,P,hp,-⟩:=h.dT;obtain⟨hc,-⟩:=ae P;obtain⟨i0,A,B,C,D⟩:=F2;have h0:=au P;go_enter func187,ntmps187;go_wp2;go_loopw [5,7] (λv m wr=> ∃(r:Nat) (a:List Bool) (c:PS),r<=b/\a.length+7*r=7*b/\wr.ownsRow X.heap.size 4 1 v a.length (a.map Value.bool)/\dR wr n E c/\Kp (one n) X wr/\(bn f=Yk->bn c=Yk)/\
   (m= Yt Yk/\gT E f.place r a c=bH E b f\/m= Yt Yj/\(a,c)=bH E b f)) (λv _ _=>7*b+7-lenOf v)
 case atStart=>exact⟨b,[],f,cQ,Vc,World.ownsRow_nil _ _ _ _,h,iR,λh=>h,Yo ⟨U,U⟩⟩
 case round=>
  obtain⟨r,a,c,hr,h1,e,p,g,F,G⟩:=hrel;rcases G with⟨rfl,d⟩|⟨rfl,d⟩
  .obtain⟨ad,I,rfl⟩:=aA e;by_cases J:r=0
   .have hz:(((a.length:Nat):Int)==7*(b:Int))=true:=Vd
    go_wp2_with fail;refine(dJ p _ _ Vb).bw ?_;rintro w1⟨w,y⟩;go_wp2_with fail;refine(sy w).bw ?_;rintro s⟨l,q⟩;have j:bn (cA 2 i c)=true:=by cases c<;>rfl
    rw[kG j];rw[kG j]at l;go_wp2_with fail;refine(bz l).cJ ?_;go_wp2;go_ret;have m:bH E b f=([],cA 2 i c):=by
     rw[<-d,J,jH hp F];rfl
    rw[m];exact⟨Q H 0 0,U,aw.nil _ _,(λk o=>by cases o),l,(g.trans y).trans q⟩
   .obtain⟨q,rfl⟩:∃q,r=q+1:=⟨r-1,Y⟩;have hz:(((a.length:Nat):Int)==7*(b:Int))=false:=Vd
    go_wp2_with fail;refine(sy p).bw ?_;rintro w1⟨w,y⟩;have d:=d;rw[gT]at d;have z:bn f=Yk->bn (b8 E c).2=true:=λj=>by grind[kG]
    generalize(b8 E c).1=x at *;generalize(b8 E c).2=l at *;by_cases s:bn l=Yk
    .go_wp2_with fail;refine(bz w).cJ ?_;go_wp2;go_ret;have d:=d;rw[Vi s]at d;rw[<-d];exact⟨Q H 0 0,U,aw.nil _ _,(λk o=>by cases o),w,g.trans y⟩
    .have d:=d;rw[Va s]at d;simp only[VG]at s;go_wp2_with fail;refine(bz w).cJ ?_;go_wp2;go_loopw [5,9] (λv k m=> ∃(j:Nat),j<=7/\k= V O j/\m.ownsRow X.heap.size 4 1 v (a.length+j) ((a++(bA x).take j).map Value.bool)/\dR m n E l/\Kp (one n) X m) (λ_ k _=>7 - (intOf k).toNat);case atStart=>
      refine⟨0,Y,U,?_,w,g.trans y⟩;simpa using y.own e (λk o=>by grind[aK,one])
     case round=>
      obtain⟨j,hj,rfl,t,v,m⟩:=hrel;obtain⟨K,L,rfl⟩:=aA t;by_cases h2:j<7
      .go_wp2_with(at_builtin;refine wpList_append_own _ U _ _ 55 U X.heap.size 4 i0 (Yt Yj) 1 1 underlying55 A B C D U Vb _ _ _ U (t.alloc _) ⟨wr.heap.size,0,H⟩ 1 1 [Yt (Go.bits BinOp.and IntKind.u8 ((x.toNat:Int)/2^j) 1==1)] U U (cell_one_new _ _ _) ?c2 ?c3 ?c4 ?c5 ?_);case c2=>intro u R;simp at R;subst R;rfl
       case c3=>grind[maxLen]
       case c4=>omega
       case c5=>have:=m.size;simp;omega
       intro v' w4 h3 N _;go_wp2;go_roundw;case rel=>
        have S:=((Kp.refl (λk=>X.heap.size<=k) wr).alloc _).bS N (λk o=> Yo (aK t k o));refine⟨j+1,Y,by go_num,?_,v.keep S (λk o=>Y),m.comp S bW (λk o h=>Y)⟩;simp_all[F1,o8,VR]
       case measure=>grind[intOf]
      .obtain rfl :j=7:=Y
       have d:=d;have k:wr.ownsRow X.heap.size 4 1 (Value.slice K (a.length+7) L) (a++bA x).length ((a++bA x).map Value.bool):=by
        grind[jn]
       by_cases u:128<=x
       .rw[Vi u]at d;have o:(128:Int)<=x.toNat:=by grind[UInt8.le_iff_toNat_le]
        go_wp2;go_roundw;case rel=>exact⟨q,a++bA x,l,Y,by grind[jn],k,v,m,z,Yo ⟨U,d⟩⟩
        case measure=>grind[lenOf]
       .rw[Va u]at d;have o: ¬(128:Int)<=x.toNat:=by grind[UInt8.le_iff_toNat_le]
        go_wp2;go_roundw;case rel=>exact⟨q,a++bA x,l,Y,by grind[jn],k,v,m,z,Yp ⟨U,d⟩⟩
        case measure=>grind[lenOf]
  .obtain⟨ad,I,rfl⟩:=aA e;go_wp2;go_ret;rw[<-d];exact⟨_,U,aw.own e,aK e,p,g⟩
theorem JV(E:PE)(a:Int)(r:Nat):∀(b:List Bool) (c:PS),(gT E a r b c).1.length<=b.length+7*r/\(bn (gT E a r b c).2=Yj->b.length+7<=(gT E a r b c).1.length):=by
 induction r with
 |zero=>intro b c;refine⟨by simp[gT],λh=>?_⟩;cases c<;>simp[gT,cA,bn]at h
 |succ r ih=>
  grind[gT,jn]
def xv(E:PE)(m:Nat)(a:PS):(bH E m a).1.length<=7*m/\(bn (bH E m a).2=Yj->7<=(bH E m a).1.length):=by
 grind[JV,bH]
def B8{E:PE}{a:List Bool}{b:PS}(h:bn b=Yk):(gT E y r a b)=([],b):=by
 cases r with
 |zero=>rw[gT,je h]
 |succ r=>grind[gT,kG]
theorem jX{E:PE}{a:PS}(h:bn a=Yk):bH E m a=([],a):=B8 h
def bN:List Bool->Nat
 |[]=>0
 |b::t=>(if b then 1 else 0)+2*bN t
theorem gU(l:List Bool):bN l<2^l.length:=by
 induction l with
 |nil=>simp[bN]
 |cons b t ih=>grind[bN]
def xw{l:List Bool}{k:Nat}(a:k<l.length):bN (l.drop k)=(if l.getD k Yj then 1 else 0)+2*bN (l.drop (k+1)):=by
 grind[List.drop_eq_getElem_cons,bN]
def Na{l:List Bool}(h:l.length<=34):bN l<=17179869183:=by
 have a:=gU l;have b:2^l.length<=2^34:=V3 Vb h;omega
def uM(E:PE)(most:Int)(σ:PS):Nat×PS:=
 let r:=bH E 5 σ
 if bn r.2 then (0,r.2)else
 if (7<r.1.length/\dD r.1 (r.1.length-7) Yj=Yk)\/(32<r.1.length/\dD r.1 32 Yj=Yj)\/most<(bN r.1:Int)then (0,cA 2 σ.place r.2)else (bN r.1,r.2)
def DG{l:List Bool}(h:lh X u l)(c:l.length<=1000)(j:Int)(b:0<=j)(d:j<=1000)(a:Bool):
  fX 188 #[u,V O j,Yt a] X (Yt (dD l j.toNat a)):=by
 obtain⟨n,rfl⟩:=WN b;grind[M9]
def zG{P:Prop}(h:P:=by
 by_cases a:7<bits.length
 .go_wp2_with fail;refine(DG HB.out Y _ Y Y _).cJ ?_;go_wp2_with fail;go_meet;exact⟨by simp[a],U⟩
 .go_wp2_with fail;go_meet;exact⟨by simp[a],U⟩):P:=h
def zH{P:Prop}(h:P:=by
 rw[Vi T2]at hM;have a:=Z hM;clear hM;go_wp2_with fail;refine(bz HS.out).cJ ?_;go_wp2;go_ret;rw[a.out];exact⟨U,HS.out,k1⟩):P:=h
def zI{P:Prop}(h:P:=by
 go_wp2_with fail;refine(DG HB.out Y _ Y Y _).cJ ?_;go_wp2_with fail;go_meet;exact⟨by simp[h32],U⟩):P:=h
def kH{E:PE}{b:PS}(h:dR X N E b)(c:Int):
  df 158 #[ptr N,V O c] X (V O (uM E c b).1) λa=>dR a N E (uM E c b).2/\Kp (one N) X a:=by
 obtain⟨i,I,pl,hi,B,C,-⟩:=h.dT;obtain⟨hc,-⟩:=ae B;have m:bn b=Yk->bn (bH E 5 b).2=true:=λa=>by rw[jX a];exact a
 have p:=jH C m 2;have hM:uM E c b=(if bn (bH E 5 b).2 then (0,(bH E 5 b).2)else
   if (7<(bH E 5 b).1.length/\dD (bH E 5 b).1 ((bH E 5 b).1.length-7) Yj=Yk)\/(32<(bH E 5 b).1.length/\dD (bH E 5 b).1 32 Yj=Yj)\/c<(bN (bH E 5 b).1:Int)then (0,cA 2 i (bH E 5 b).2)else (bN (bH E 5 b).1,(bH E 5 b).2)):=by rw[p];rfl
 generalize uM E c b=R at *;have t:=xu h 5 Vb Vb;have u:=xv E 5 b;clear p m C B h;generalize(bH E 5 b).1=bits at *;generalize(bH E 5 b).2=f at *;obtain⟨J,g⟩:=u;have K:=Z g;have D:=Z hM;clear g hM;replace t:=Z t;go_enter func158,ntmps158;go_wp2_with fail;refine t.mono ?_;rintro e F⟨v,rfl,w,y,z,k1⟩;obtain⟨ad,L,rfl,P⟩:=w.aJ;have HB:=Z w;have HS:=Z z;clear w z t;change Hid _ at y;have hM:=D.out;by_cases T2:bn f=Yk
 .exact zH
 .rw[Va T2]at hM;simp only[VG]at T2;have r:=Z hM;clear hM D;have g:=K T2;go_wp2_with fail;refine(bz HS).cJ ?_;go_upto_region 5 with fail
  go_cut [7] (λx a=>x= Yt (decide (7<bits.length)&&dD bits (bits.length-7) Yj)/\F=a)
  case first =>
   exact zG
  case rest=>
  obtain⟨rfl,rfl⟩:=hcut;go_upto_region 6 with fail
  go_cut [8] (λx a=>x= Yt (decide (32<bits.length)&& !dD bits 32 Yj)/\F=a)
  case first =>
   by_cases h32:32<bits.length
   .exact zI
   .go_wp2_with fail;go_meet;exact⟨by simp[h32],U⟩
  case rest=>
  obtain⟨rfl,rfl⟩:=hcut;have s:=r.out;have d:R=if ((decide (7<bits.length)&&dD bits (bits.length-7) Yj)=Yk\/(decide (32<bits.length)&& !dD bits 32 Yj)=Yk\/c<(bN bits:Int))then (0,cA 2 i f)else (bN bits,f):=by
   rw[s];simp
  generalize(decide (7<bits.length)&&dD bits (bits.length-7) Yj)=S at *;generalize(decide (32<bits.length)&& !dD bits 32 Yj)=T at *;clear s r;change Hid _ at d;go_wp2;go_loop [9,10] (λn k=> ∃j:Nat,j<=bits.length/\k= V O ((j:Int)-1)/\n= V O (bN (bits.drop j):Nat)) (λ_ k=>(intOf k+1).toNat);case atStart=>exact⟨bits.length,cQ,U,by simp[bN]⟩
  case round=>
   obtain⟨j,hj,rfl,rfl⟩:=hrel;by_cases A:j=0
   .subst A;simp only[List.drop_zero];have q:(bN bits:Int)<=34359738368:=by
     have z:=gU bits;have a:2^bits.length<=2^35:=V3 Vb Y;have k:2^35=34359738368:=Vb
     omega
    cases S<;>cases T
    .by_cases a:c<(bN bits:Int)
     .go_wp2_with fail;refine(dJ HS _ _ Vb).bw ?_;rintro G⟨k,o⟩;change Hid _ at k;go_wp2;go_ret;rw[d.out,Vi (by simp[a])];exact⟨U,k,k1.trans o⟩
     .go_wp2;go_ret;rw[d.out,Va (by simp[a])];exact⟨U,HS,k1⟩
    all_goals
     go_wp2_with fail;refine(dJ HS _ _ Vb).bw ?_;rintro G⟨k,o⟩;go_wp2;go_ret;rw[d.out,Vi Vc];exact⟨U,k,k1.trans o⟩
   .obtain⟨q,rfl⟩:∃q,j=q+1:=⟨j-1,Y⟩;obtain⟨a,o,W,G,_,h0⟩:=lh.get HB (show q<bits.length by omega);simp only[Vz]at G;obtain⟨rfl,-,rfl⟩:=G;have k:=xw (show q<bits.length by omega);have h1:=Na (l:=bits.drop (q+1)) Vd;generalize bN (bits.drop (q+1))=n at *;generalize bits.getD q Yj=x at *;change Hid _ at k;have e1:((q+1:Nat):Int)-1=q:=Y
    rw[e1];have e2:((q:Int)).toNat=q:=Y
    cases x
    .go_wp2;go_round;case rel=>exact⟨q,Y,by go_num,by rw[k.out];simp⟩
     case measure=>simp[intOf]
    .go_wp2;go_round;case rel=>exact⟨q,Y,by go_num,by rw[k.out];simp;omega⟩
     case measure=>simp[intOf]
def um(bits:List Bool)(size:Nat)(sign:Bool):List Bool:=(List.range size).map λi=>if i<bits.length then bits.getD i Yj else sign
def eQ(bits:List Bool):Bool:=bits.getD (bits.length-1) Yj
def sM(E:PE)(size:Nat)(σ:PS):Nat×PS:=
 let r:=bH E (if size=64 then 10 else 5) σ
 if bn r.2 then (0,r.2)else
 if (7<r.1.length/\dD r.1 (r.1.length-8) (eQ r.1)=Yk)\/(size<r.1.length/\dD r.1 (size-1) (eQ r.1)=Yj)then (0,cA 2 σ.place r.2)else (bN (um r.1 size (eQ r.1)),r.2)
theorem rE(b:List Bool)(a:Nat)(c:Bool):(um b a c).length=a:=by simp[um]
def IJ(a:List Bool)(b:Nat)(c:Bool)(q:Nat)(d:q<b):(um a b c).getD q Yj=if q<a.length then a.getD q Yj else c:=by
 grind[um]
def F3{l:List Bool}(h:l.length<=63):bN l<=9223372036854775807:=by
 have a:=gU l;have b:2^l.length<=2^63:=V3 Vb h;omega
def zJ{P:Prop}(h:P:=by
 go_wp2;go_round;case rel=>exact⟨q,Y,by go_num,by rw[HV2.out];simp;omega⟩
 case measure=>simp[intOf]):P:=h
def zK{P:Prop}(h:P:=by
 go_wp2;go_round;case rel=>exact⟨q,Y,by go_num,by rw[HV2.out];simp⟩
 case measure=>simp[intOf]):P:=h
def Nb{E:PE}{c:PS}(h:dR X N E c)(b:Nat)(P:b=32\/b=64):
  df 189 #[ptr N,V O b] X (V Yr (sM E b c).1) λa=>dR a N E (sM E b c).2/\Kp (one N) X a:=by
 obtain⟨i,h3,pl,hi,hb,hp,-⟩:=h.dT;obtain⟨hc,-⟩:=ae hb;obtain⟨m,u⟩:∃m:Nat,m=if b=64 then 10 else 5:=⟨_,U⟩
 have B:m<=10/\0<m:=by rw[u];split <;>decide
 have C:bn c=Yk->bn (bH E m c).2=true:=λa=>by rw[jX a];exact a
 have D:=jH hp C 2;have hM:sM E b c=(if bn (bH E m c).2 then (0,(bH E m c).2)else
   if (7<(bH E m c).1.length/\dD (bH E m c).1 ((bH E m c).1.length-8) (eQ (bH E m c).1)=Yk)\/(b<(bH E m c).1.length/\dD (bH E m c).1 (b-1) (eQ (bH E m c).1)=Yj)then (0,cA 2 i (bH E m c).2)else (bN (um (bH E m c).1 b (eQ (bH E m c).1)),(bH E m c).2)):=by rw[D,u];rfl
 generalize sM E b c=R at *;have L:=xu h m B.1 B.2;have S:=xv E m c;clear D C hp hb h;generalize(bH E m c).1=bits at *;generalize(bH E m c).2=w at *;obtain⟨T,y⟩:=S;have h4:bits.length<=70:=Y
 have HL:=Z y;have HM:=Z hM;clear y hM T;replace L:=Z L;go_enter func189,ntmps189;go_upto_if 18 with fail
 go_cut [6] (λx f=>x= V O m/\X=f)
 case first =>
  by_cases a:b=64
  .have g:((b:Int)==64)=true:=Vd
   have d:m=10:=by rw[u,Vi a]
   clear u a P;go_wp2_with fail;go_meet;exact⟨by rw[d];rfl,U⟩
  .have g:((b:Int)==64)=false:=Vd
   have d:m=5:=by rw[u,Va a]
   clear u a P;go_wp2_with fail;go_meet;exact⟨by rw[d];rfl,U⟩
 case rest=>
 obtain⟨rfl,rfl⟩:=hcut;have h5:32<=b:=Y
 have h6:b<=64:=Y
 clear u P;go_wp2_with fail;refine L.mono ?_;rintro e w1⟨v,rfl,W,h0,h2,k1⟩;obtain⟨ad,h7,rfl,h8⟩:=W.aJ;have HB:=Z W;have HS:=Z h2;clear W h2 h0 L hc;have hM:=HM.out;by_cases T2:bn w=Yk
 .exact zH
 .rw[Va T2]at hM;simp only[VG]at T2;have F:=Z hM;clear hM HM;have y:=HL T2;obtain⟨a,o,h9,hv,_,h1⟩:=lh.get HB (show bits.length-1<bits.length by omega);simp only[Vz]at hv;obtain⟨rfl,-,rfl⟩:=hv;have G:bits.getD (bits.length-1) Yj=eQ bits:=rfl;rw[G]at h1;clear G;have z:=F.out;have I:=λq g=>IJ bits b (eQ bits) q g
  have r:=rE bits b (eQ bits);generalize eQ bits=t at *;generalize um bits b t=ext at *;clear F;change Hid _ at z I r;go_wp2_with fail;refine(bz HS).cJ ?_;go_upto_region 9 with fail
  go_cut [9] (λx f=>x= Yt (decide (7<bits.length)&&dD bits (bits.length-8) t)/\w1=f)
  case first =>
   exact zG
  case rest=>
  obtain⟨rfl,rfl⟩:=hcut;go_upto_region 10 with fail
  go_cut [10] (λx f=>x= Yt (decide (b<bits.length)&& !dD bits (b-1) t)/\w1=f)
  case first =>
   by_cases h32:b<bits.length
   .exact zI
   .go_wp2_with fail;go_meet;exact⟨by simp[h32],U⟩
  case rest=>
  obtain⟨rfl,rfl⟩:=hcut;have g:R=if ((decide (7<bits.length)&&dD bits (bits.length-8) t)=Yk\/(decide (b<bits.length)&& !dD bits (b-1) t)=Yk)then (0,cA 2 i w)else (bN ext,w):=by
   rw[z.out];simp
  generalize(decide (7<bits.length)&&dD bits (bits.length-8) t)=lg at *;generalize(decide (b<bits.length)&& !dD bits (b-1) t)=gr at *;clear z;change Hid _ at g;by_cases p:lg=Yk\/gr=Yk
  .have hM:=g.out;rw[Vi p]at hM;have s:=Z hM;clear hM g;rcases p with rfl |rfl
   .go_wp2_with fail;refine(dJ HS _ _ Vb).bw ?_;rintro j⟨d,f⟩;change Hid _ at d;go_wp2;go_ret;rw[s.out];exact⟨U,d,k1.trans f⟩
   .cases lg;all_goals
     go_wp2_with fail;refine(dJ HS _ _ Vb).bw ?_;rintro j⟨d,f⟩;change Hid _ at d;go_wp2;go_ret;rw[s.out];exact⟨U,d,k1.trans f⟩
  .have hM:=g.out;rw[Va p]at hM;have s:=Z hM;clear hM g;obtain⟨rfl,rfl⟩:lg=Yj/\gr=false:=by simpa using p
   clear p;go_wp2;go_loop [11,12] (λn k=> ∃j:Nat,j<=b/\k= V O ((j:Int)-1)/\n= V Yr (bN (ext.drop j):Nat)) (λ_ k=>(intOf k+1).toNat);case atStart=>exact⟨b,cQ,U,by rw[WR (by rw[r.out];exact VP _)];rfl⟩
   case round=>
    obtain⟨j,hj,rfl,rfl⟩:=hrel;by_cases J:j=0
    .subst J;simp only[List.drop_zero];go_wp2;go_ret;rw[s.out];exact⟨U,HS,k1⟩
    .obtain⟨q,rfl⟩:∃q,j=q+1:=⟨j-1,Y⟩;clear J;have f:=xw (l:=ext) (k:=q) (by rw[r.out];omega);have k0:=F3 (l:=ext.drop (q+1)) (by simp[r.out];omega);rw[I.out q Y]at f;generalize bN (ext.drop (q+1))=n at *;change Hid _ at f;have e1:((q+1:Nat):Int)-1=q:=Y
     rw[e1];by_cases A:q<bits.length
     .obtain⟨a2,o2,k2,K,_,k3⟩:=lh.get HB A;simp only[Vz,Vu,Xv]at K;obtain⟨⟨rfl,rfl,-⟩,-,rfl⟩:=K;have d:=f.out;rw[Vi A]at d;generalize bits.getD q Yj=x at *;have HV2:=Z d;clear d f;cases x
      .exact zK
      .exact zJ
     .have d:=f.out;rw[Va A]at d;have HV2:=Z d;clear d f;cases t
      .exact zK
      .exact zJ
def aO(E:PE)(t:UInt8)(σ:PS):Nat×PS:=if t=127 then sM E 32 σ else sM E 64 σ
def zL{P:Prop}(h:P:=by
 rintro d⟨a,b⟩;have c:=Z a;clear a;go_wp2;go_ret;exact⟨U,c.out,b⟩):P:=h
def jI{E:PE}{b:PS}(h:dR X n E b)(t:UInt8):
  df 160 #[ptr n,V Ys t.toNat] X (V Yr (aO E t b).1) λa=>dR a n E (aO E t b).2/\Kp (one n) X a:=by
 change Hid _ at h;by_cases a:t=127
 .rw[aO,Vi a];have c:((t.toNat:Int)==127)=true:=by rw[a];rfl
  clear a;go_enter func160,ntmps160;go_wp2_with fail;refine(Nb h 32 (Yo U)).bw ?_;exact zL
 .rw[aO,Va a];have c:((t.toNat:Int)==127)=false:=by rw[show(127:Int)=((127:UInt8).toNat:Int)from U,lH];simpa using a
  clear a;go_enter func160,ntmps160;go_wp2_with fail;refine(Nb h 64 (Yp U)).bw ?_;exact zL
def lj:(Tryz.prog.info? 5).map (λi=>(i.zero,i.size,i.bytes))=M (M (V Ys 0),1,1):=Vf
def mZ:∃i,Tryz.prog.info? 5=M i/\i.zero=M (V Ys 0)/\i.size=1/\i.bytes=1:=info_parts lj
def eY(E:PE):Nat->List UInt8->PS->List UInt8×PS
 |0,l,σ=>(l,σ)
 |r+1,l,σ=>if bn σ then (l,σ)else eY E r (l++[(cB E 127 126 126 σ).1]) (cB E 127 126 126 σ).2
def dF(E:PE)(n:Nat)(σ:PS):List UInt8×PS:=eY E n [] σ
abbrev cw(l:List UInt8):List Value:=l.map λc=> V Ys c.toNat
def uo{E:PE}{o:PS}(h:dR X a E o)(n:Nat)(W:n<=2000):
  Yy prog 159 #[ptr a,V O n] X λr b=> ∃v,r= Yq v/\b.ownsRow X.heap.size 5 1 v (dF E n o).1.length (cw (dF E n o).1)/\dR b a E (dF E n o).2/\Kp (one a) X b:=by
 obtain⟨N,w,y,z,A⟩:=mZ;obtain⟨_,_,_,_,F,_⟩:=h.dT;have P:=au F;have b:=Z h;clear F h;go_enter func159,ntmps159;go_wp2;go_loopw [5,6] (λv i wr=> ∃(k:Nat) (l:List UInt8) (f:PS),k<=n/\i= V O k/\l.length=k/\wr.ownsRow X.heap.size 5 1 v l.length (cw l)/\dR wr a E f/\Kp (one a) X wr/\eY E (n-k) l f=dF E n o) (λ_ i _=>n - (intOf i).toNat);case atStart=>exact⟨0,[],o,Y,U,U,World.ownsRow_nil _ _ _ _,b,iR,U⟩
 case round=>
  obtain⟨k,l,f,p,rfl,j,d,g,i,c⟩:=hrel;have G:=Z c;clear c;change Hid _ at g i j;obtain⟨ad,R,rfl⟩:=aA d;replace d:=Z d;by_cases S:k<n
  .have c:=G.out;obtain⟨q,t⟩:∃q,n-k=q+1:=⟨n-k-1,Y⟩;rw[t,eY]at c;by_cases m:bn f=Yk
   .rw[Vi m]at c;change Hid _ at c t;go_wp2_with fail;refine(bz g).cJ ?_;go_wp2;go_ret;rw[<-c.out];exact⟨_,U,d,g,i⟩
   .rw[Va m]at c;simp only[VG]at m;have r:=Z c;clear c;change Hid _ at t;go_wp2_with fail;refine(bz g).cJ ?_;go_wp2_with fail;refine(oZ g 127 126 126).bw ?_;rintro I⟨J,v⟩;have c:=r.out;generalize(cB E 127 126 126 f).1=x at *;generalize(cB E 127 126 126 f).2=B at *;have s:=Z (v.own d (λk p=>by have:=(aK d) k p;intro e;unfold one at e;omega));clear r;change Hid _ at J c;go_wp2_with(at_builtin;refine wpList_append_own _ U _ _ 25 U X.heap.size 5 N (V Ys 0) 1 1 underlying25 w y z A U Vb _ _ _ U (s.alloc _) ⟨I.heap.size,0,H⟩ 1 1 [V Ys x.toNat] U U (cell_one_new _ _ _) ?c2 ?c3 ?c4 ?c5 ?_);case c2=>intro u K;simp at K;subst K;rfl
    case c3=>unfold maxLen;rw[j.out];omega
    case c4=>rw[j.out];omega
    case c5=>have:=i.size;have:=v.size;simp;omega
    intro v' w4 e C _;have D:=Z e;have T:=Z C;go_wp2;go_roundw;case rel=>
     have L:=((Kp.refl (λk=>X.heap.size<=k) I).alloc _).bS T (λk p=> Yo (aK s k p));refine⟨k+1,l++[x],B,Y,by go_num,by simp[j.out],?_,J.keep L (λk p=>Y),(i.trans v).comp L bW (λk p h=>Y),?_⟩
     .simpa using D.out
     .rw[show n - (k+1)=q by have:=t.out;omega];exact c
    case measure=>simp[intOf];omega
  .go_wp2;go_ret;have c:=G.out;rw[show n-k=0 by omega,eY]at c;rw[<-c];exact⟨_,U,d,g,i⟩
def JW{E:PE}{d:PS}(h:dR X a E d)(n:Nat)(f:n<=2000):
  Yy prog 159 #[ptr a,V O n] X λr c=> ∃v,r= Yq v/\aq c v (dF E n d).1/\(∀k,v.ownBlock=M k->X.heap.size<=k)/\dR c a E (dF E n d).2/\Kp (one a) X c:=by
 refine(uo h n f).mono ?_;rintro r c⟨v,rfl,e,g,k⟩;exact⟨v,U,aw.own e,λb i=>aK e b i,g,k⟩
def vH(a:D.length=l.length):D=l↔ ∀k,k<D.length->D.getD k 0=l.getD k 0:=by
 constructor
 .grind
 grind[List.ext_getElem]
def fq{w:Yw}{a b:List UInt8}(s:aq w u a)(t:aq w z b)(E:a.length<=1000000000):
  df 190 #[u,z] w (Yt (decide (a=b))) λc=>Kp no w c:=by
 obtain⟨F,G,rfl,I⟩:=s.aJ;obtain⟨J,K,rfl,L⟩:=t.aJ;have N:=Z s;have P:=Z t;by_cases v:a.length=b.length
 .have o:(((a.length:Nat):Int) !=((b.length:Nat):Int))=false:=Vd
  go_enter func190,ntmps190;have f:=Z v;go_wp2;go_loopw [5] (λi wr=> ∃(k:Nat),k<=a.length/\i= V O k/\(∀j,j<k->a.getD j 0=b.getD j 0)/\Kp no w wr) (λi _=>a.length - (intOf i).toNat);case atStart=>exact⟨0,Y,U,λj A=>Y,iR⟩
  case round=>
   obtain⟨k,W,rfl,p,q⟩:=hrel;have g:=Z q;have B:=Z p;by_cases d:k<a.length
   .obtain⟨X,o1,c1,h,_,i⟩:=aq.get N d;obtain⟨a2,o2,c2,l,_,m⟩:=aq.get P (by rw[<-f.out];exact d);simp only[Vz]at h l;obtain⟨rfl,-,rfl⟩:=h;obtain⟨rfl,-,rfl⟩:=l;replace i:=g.aY i;replace m:=g.aY m;have R:k<b.length:=by rw[<-f.out];exact d
    have n:=mY (a.getD k 0) (b.getD k 0);generalize S:a.getD k 0=x at *;generalize T:b.getD k 0=y at *;have C:=Z S;have D:=Z T;by_cases c:x=y
    .rw[show(!(x==y))=Yj by simpa using c]at n;have e:=Z c;go_wp2;go_quiet(fail);go_wp2;go_roundw;case rel=>
      refine⟨k+1,Y,by go_num,λj A=>?_,g.drewN _⟩;rcases VE j k with r|r
      .exact B j r
      .obtain rfl :j=k:=Y
       rw[C.out,D.out,e.out]
     case measure=>simp[intOf];omega
    .rw[show(!(x==y))=Yk by simpa using c]at n;have e:=Z c;go_wp2;go_quiet(fail);go_wp2;go_ret;refine⟨lG ?_,g.drewN _⟩;symm;rw[V7];intro r;exact e (by rw[<-C.out,<-D.out,r])
   .go_wp2;go_ret;refine⟨lG ?_,g⟩;symm;rw[Xs,vH f.out];intro j A;exact B j Y
 .have o:(((a.length:Nat):Int) !=((b.length:Nat):Int))=true:=Vd
  go_enter func190,ntmps190;have f:=Z v;go_wp2;go_ret;refine⟨lG ?_,iR⟩;symm;rw[V7];rintro rfl;exact f U
def gp(stack types:List UInt8):List UInt8×Bool:=
 if stack.length<types.length then (stack,Yj)else (stack.take (stack.length-types.length),decide (stack.drop (stack.length-types.length)=types))
def _root_.Go.Proofs.YtdeplgkhmebalaaGreatDoor.aq.T3{w:Yw}{o cap:Nat}(h:aq w (Q (M ⟨a,o,H⟩) N cap) l)(n:Nat)(f:n<=l.length):aq w (Q (M ⟨a,o,H⟩) n cap) (l.take n):=by
 rcases h.cases with⟨b,-⟩|⟨g,i,c,b,j,d⟩
 .cases b
 .cases b;have e:(l.take n).length=n:=Vd
  have:=aq.mk (w:=w) (a:=a) (o:=o) (cap:=cap) (l:=l.take n) Y (λk m=>by
   grind)
  grind
def _root_.Go.Proofs.YtdeplgkhmebalaaGreatDoor.aq.drop(h:aq X (Q (M ⟨a,N,H⟩) q B) l)(n:Nat)(f:n<=l.length):aq X (Q (M ⟨a,N+n,H⟩) (l.length-n) (B-n)) (l.drop n):=by
 rcases h.cases with⟨b,-⟩|⟨g,i,c,b,j,d⟩
 .cases b
 .cases b;have e:(l.drop n).length=l.length-n:=Vc
  grind[aq.mk]
def _root_.Go.Proofs.YtdeplgkhmebalaaGreatDoor.aq.Re(h:aq X (Q (M ⟨a,N,H⟩) q n) l):aq X (Q (M ⟨a,N,H⟩) 0 0) (l.drop n):=by
 rcases h.cases with⟨b,-⟩|⟨g,i,c,b,d,e⟩
 .cases b
 .cases b;rw[WR d];exact aq.mk (l:=[]) cQ (λk f=>by simp at f)
def Rg{a b:List UInt8}(m:aq X u a)(l:aq X z b)(x:a.length<=1000000000)(o:b.length<=1000000000):
  Yy prog 193 #[u,z] X λr c=> ∃v,r= Yq (Yu #[v,Yt (gp a b).2])/\aq c v (gp a b).1/\(∀k,v.ownBlock=M k->u.ownBlock=M k)/\Kp no X c:=by
 have j:=Z m;have p:=Z l;rcases m.cases with⟨rfl,rfl⟩|⟨D,E,c,rfl,y,-⟩
 .obtain⟨q,r,rfl,s⟩:=l.aJ;clear m l;by_cases g:0<b.length
  .have e:gp [] b=([],Yj):=by rw[gp,Vi (by simpa using g)]
   go_enter func193,ntmps193;go_wp2;go_ret2;rw[e];exact⟨_,U,aq.nil _,λk d=>d,iR⟩
  .obtain rfl :b=[]:=WM.1 Y;clear g o;go_enter func193,ntmps193;go_wp2_with fail;refine(fq j p Vc).bw ?_;rintro w f;go_wp2;go_ret2;exact⟨_,U,aq.nil _,λk d=>d,f⟩
 .obtain⟨q,r,rfl,s⟩:=l.aJ;clear m l;by_cases g:a.length<b.length
  .have e:gp a b=(a,Yj):=by rw[gp,Vi g]
   change Hid _ at e;go_enter func193,ntmps193;go_wp2;go_ret2;rw[e.out];exact⟨_,U,j,λk d=>d,iR⟩
  .have e:gp a b=(a.take (a.length-b.length),decide (a.drop (a.length-b.length)=b)):=by rw[gp,Va g]
   have A:b.length<=a.length:=Y
   have B:a.length-b.length<=a.length:=Y
   clear g;change Hid _ at e;obtain⟨n,t⟩:=uh (a.length-b.length:Nat);have F:(a.length:Int)-b.length=n:=Y
   have h:n<=a.length:=Y
   have C:n<=c:=Y
   change Hid _ at t;by_cases v:c=n
   .subst v;go_enter func193,ntmps193;go_wp2_with fail;refine(fq (a:=a.drop c) (b:=b) (aq.Re j) p Vd).bw ?_;rintro w f;have i:=Z (j.kp f bW);go_wp2;go_ret2;rw[e.out,t.out];exact⟨_,U,aq.T3 i c h,λk d=>d,f⟩
   .go_enter func193,ntmps193;go_wp2_with fail;refine(fq (a:=a.drop n) (b:=b) (aq.drop j n h) p Vd).bw ?_;rintro w f;have i:=Z (j.kp f bW);go_wp2;go_ret2;rw[e.out,t.out];exact⟨_,U,aq.T3 i n h,λk d=>d,f⟩
def rF(pb:Nat)(v:Yx):Prop:= ∀b,v.ownBlock=M b->b≠pb
theorem rF.nil(a:Nat):rF a (Q H 0 0):=λb h=>by cases h
theorem _root_.Go.Proofs.YtdeplgkhmebalaaGreatDoor.aq.one{w':Yw}(h:aq X u l)(s:rF n u)(k:Kp (one n) X w'):aq w' u l:=h.kp k (λb a e=>s b a e)
structure fN(w:Yw)(pb:Nat)(v:Yx)(ag:List (List UInt8)):Prop where
 JQ:rF pb v
 row:∃cells:List Yx,aw w v 1 ag.length cells/\ ∀(k:Nat) (l:List UInt8),ag[k]?=M l-> ∃lv,cells[k]?=M lv/\aq w lv l/\rF pb lv
theorem fN.kp{w':Yw}{a:List (List UInt8)}(h:fN X n u a)(k:Kp (one n) X w'):fN w' n u a:=by
 obtain⟨d,c,f,i⟩:=h;refine⟨d,c,f.kp k (λb g e=>d b g e),λj l b=>?_⟩;grind[aq.one]
def uq(E:PE)(a:Int)(b:PS)(h:bn (uM E a b).2=Yj):((uM E a b).1:Int)<=a:=by
 unfold uM at *;simp only at *;split at h
 .simp_all
 .rename_i c;rw[Va c];split at h
  .cases d:(bH E 5 b).2<;>simp_all[cA,bn]
  grind
theorem DH{E:PE}{a:PS}(h:bn a=Yk):uM E y a=(0,a):=by
 grind[uM,jX]
def bf(E:PE)(ag:List (List UInt8))(σ:PS):(Nat×List UInt8)×PS:=
 let r:=uM E ((ag.length:Int)-1) σ
 if bn r.2 then ((0,[]),r.2)else ((r.1,ag.getD (ag.length-1-r.1) []),r.2)
def nh{w:Yw}{E:PE}{d:PS}(h:dR w N E d){c:List (List UInt8)}(y:fN X N u c)(A:Kp (one N) X w)(K:c.length<=1000):
  Yy prog 215 #[ptr N,u] w λr a=> ∃j,r= Yq (Yu #[V O (bf E c d).1.1,j])/\aq X j (bf E c d).1.2/\rF N j/\dR a N E (bf E c d).2/\Kp (one N) w a:=by
 have g:bf E c d=(if bn (uM E ((c.length:Int)-1) d).2 then ((0,[]),(uM E ((c.length:Int)-1) d).2)else (((uM E ((c.length:Int)-1) d).1,c.getD (c.length-1 - (uM E ((c.length:Int)-1) d).1) []),(uM E ((c.length:Int)-1) d).2)):=rfl;generalize bf E c d=R at *;have B:=kH h ((c.length:Int)-1);have l:=uq E ((c.length:Int)-1) d;obtain⟨C,i,m⟩:=y.row;obtain⟨L,D,rfl,F⟩:=i.aJ;generalize(uM E ((c.length:Int)-1) d).1=n at *;generalize(uM E ((c.length:Int)-1) d).2=p at *;go_enter func215,ntmps215;go_wp2_with fail;refine B.bw ?_;rintro P⟨k,r⟩;have g:=g;by_cases f:bn p=Yk
 .rw[Vi f]at g;go_wp2_with fail;refine(bz k).cJ ?_;go_wp2;go_ret2;rw[g];exact⟨_,U,aq.nil _,rF.nil _,k,r⟩
 .rw[Va f]at g;simp only[VG]at f;have G:=l f;obtain⟨j,s,t,v⟩:=m (c.length-1-n) _ (Vj Y);obtain⟨a,o,I,z,_,x⟩:=(i.kp (A.trans r) (λb q e=>y.JQ b q e)).get s;simp only[Vz]at z;obtain⟨rfl,-,rfl⟩:=z;have b:c.getD (c.length-1-n) []=c[c.length-1-n]'Y:=by simp[List.getD,Vj (show c.length-1-n<c.length by omega)]
  obtain⟨q,e⟩:=uh (c.length-1-n:Nat);have S:(c.length:Int)-1-n=q:=Y
  have J:q<c.length:=Y
  rw[e]at x;go_wp2_with fail;refine(bz k).cJ ?_;go_wp2;go_quiet(fail);go_wp2;go_ret2;rw[g,b];exact⟨_,U,t,v,k.keep ((Kp.refl no _).drewN _) bW,r.drewN _⟩
structure ez where
 bg:List UInt8
 funcs:List (List UInt8×List UInt8)
 bO:List (UInt8×UInt8×Nat)
structure hZ(w:Yw)(pb:Nat)(v:Yx)(l:List (List UInt8×List UInt8)):Prop where
 JQ:rF pb v
 row:∃cells:List Yx,aw w v 4 l.length cells/\ ∀(k:Nat) (x:List UInt8×List UInt8),l[k]?=M x-> ∃pv rv,cells[k*4]?=M pv/\cells[k*4+1]?=M rv/\aq w pv x.1/\rF pb pv/\aq w rv x.2/\rF pb rv
structure jY(w:Yw)(pb:Nat)(v:Yx)(l:List (UInt8×UInt8×Nat)):Prop where
 JQ:rF pb v
 row:∃cells:List Yx,aw w v 3 l.length cells/\ ∀(k:Nat) (x:UInt8×UInt8×Nat),l[k]?=M x->cells[k*3]?=M (V Ys x.1.toNat)/\cells[k*3+1]?=M (V Ys x.2.1.toNat)/\cells[k*3+2]?=M (V Yr x.2.2)
theorem hZ.kp{w':Yw}{l:List (List UInt8×List UInt8)}(h:hZ X n u l)(k:Kp (one n) X w'):hZ w' n u l:=by
 obtain⟨c,a,d,g⟩:=h;refine⟨c,a,d.kp k (λb f e=>c b f e),λj x b=>?_⟩;grind[aq.one]
theorem jY.kp{w':Yw}{l:List (UInt8×UInt8×Nat)}(h:jY X n u l)(k:Kp (one n) X w'):jY w' n u l:=by
 obtain⟨c,a,d,f⟩:=h;exact⟨c,a,d.kp k (λb g e=>c b g e),f⟩
structure ni(w:Yw)(pb:Nat)(E:PE)(G:ez):Prop where
 jG:aq w E.jG G.bg
 Rh:rF pb E.jG
 mod:∃(mb:Nat) (tv fv gv:Yx) (bI:Int),E.m=ptr mb/\mb≠pb/\w.heap[mb]?=M (Yl #[tv,fv,gv,V O bI] 149)/\hZ w pb fv G.funcs/\jY w pb gv G.bO
 Ut:G.bg.length<=1000
 B9:G.funcs.length<=1000
 sA:∀x∈G.funcs,x.1.length<=1000/\x.2.length<=1000
 F4:G.bO.length<=1000
theorem ni.kp{w':Yw}{E:PE}(h:ni X n E s)(k:Kp (one n) X w'):ni w' n E s:=by
 obtain⟨c,d,e,gv,a,f,b,g,i,j⟩:=h.mod;exact⟨h.jG.one h.Rh k,h.Rh,⟨c,d,e,gv,a,f,b,k.az g b,i.kp k,j.kp k⟩,h.Ut,h.B9,h.sA,h.F4⟩
structure IR where
 n:Nat
 ag:List Int
 value:Nat
 take:List UInt8
 put:List UInt8
 ok:Bool
abbrev aV:Value:= Q H 0 0
abbrev gq(op:Nat)(n:Nat)(lab body els:Yx)(value:Int):Value:=.agg #[V Ys op,V Yr n,lab,body,els,V O value]
def eS(w:Yw)(v:Yx)(l:List Int):Prop:=aw w v 1 l.length (l.map (Value.int O))
def ra(w0 w w':Yw)(pb:Nat)(v:Yx)(l:List UInt8):Prop:=rF pb v/\aq w' v l/\(aq w0 v l\/ ∀b,v.ownBlock=M b->w.heap.size<=b)
def xx(w w':Yw)(pb:Nat)(v:Yx)(l:List Int):Prop:=rF pb v/\eS w' v l/\ ∀b,v.ownBlock=M b->w.heap.size<=b
def xy(w0 w w':Yw)(pb:Nat)(op:Nat)(R:IR)(r:Ending):Prop:=
 ∃lab tv pv,r= Yq (Yu #[gq op R.n lab aV aV R.value,tv,pv,Yt R.ok])/\xx w w' pb lab R.ag/\ra w0 w w' pb tv R.take/\ra w0 w w' pb pv R.put
def rG(op:Nat):List UInt8×List UInt8:=
 if op=63 then ([],[127])
 else if op=64\/op=69\/(103<=op/\op<=105)then ([127],[127])
 else if (70<=op/\op<=79)\/(106<=op/\op<=120)then ([127,127],[127])
 else if op=80\/op=167 then ([126],[127])
 else if 81<=op/\op<=90 then ([126,126],[127])
 else if (121<=op/\op<=123)\/op=224 then ([126],[126])
 else if 124<=op/\op<=138 then ([126,126],[126])
 else if op=172\/op=173 then ([127],[126])
 else ([126,126],[])
def bC{w:Yw}(o:Obj)(h:n=w.heap.size):(w.alloc o).heap[n]?=M o:=by grind[ai]
theorem _root_.Go.Proofs.YtdeplgkhmebalaaGreatDoor.aq.az(h:X.heap[n]?=M (Yl (cw l).toArray T)):aq X (Q (M ⟨n,0,H⟩) l.length l.length) l:=
 aq.mk cQ (λk a=>by grind[World.cell?])
theorem six(w:Yw)(c d a a3 a4 b:Obj):
  (((((((w.alloc c).alloc d).alloc a).alloc a3).alloc a4).alloc b).heap[w.heap.size+1+1]?=M a/\
  ((((((w.alloc c).alloc d).alloc a).alloc a3).alloc a4).alloc b).heap[w.heap.size+1+1+1]?=M a3/\
  ((((((w.alloc c).alloc d).alloc a).alloc a3).alloc a4).alloc b).heap[w.heap.size+1+1+1+1]?=M a4/\
  ((((((w.alloc c).alloc d).alloc a).alloc a3).alloc a4).alloc b).heap[w.heap.size+1+1+1+1+1]?=M b)/\
  Kp no w ((((((w.alloc c).alloc d).alloc a).alloc a3).alloc a4).alloc b):=
 ⟨⟨ah (ah (ah (bC _ Vc))),ah (ah (bC _ Vc)),ah (bC _ Vc),bC _ Vc⟩,
  ((((((Kp.refl no w).alloc _).alloc _).alloc _).alloc _).alloc _).alloc _⟩
def dR.no{w':Yw}{E:PE}{a:PS}(h:dR X n E a)(k:Kp no X w'):dR w' n E a:=h.keep k bW
theorem dR.lt{E:PE}{a:PS}(h:dR X n E a):n<X.heap.size:=by
 grind[dT]
theorem eS.nil(w:Yw):eS w aV []:=aw.nil w 1
def jo(w a:Yw)(c:Nat):xx w a c aV []:=⟨rF.nil _,eS.nil _,λb d=>by cases d⟩
def dU(a w b:Yw)(c:Nat):ra a w b c aV []:=⟨rF.nil _,aq.nil _,Yo (aq.nil _)⟩
def jZ{w w':Yw}(c:n<w.heap.size)(h:aq w' (Q (M ⟨a,N,H⟩) q B) l)(e:w.heap.size<=a):ra X w w' n (Q (M ⟨a,N,H⟩) q B) l:=
 ⟨λb d=>by grind[Value.ownBlock],h,Yp (λb d=>by grind[Value.ownBlock])⟩
def Ca{w w':Yw}(e:a<w.heap.size)(d:w'.ownsRow N T 1 u n F)(h:aq w' u l)(f:w.heap.size<=N):ra X w w' a u l:=
 ⟨λb c=>cj (aK d b c),h,Yp (λb c=>cj (aK d b c))⟩
def mf{w w':Yw}(a:rF n u)(h:aq X u l)(k:Kp (one n) X w'):ra X w w' n u l:=⟨a,h.one a k,Yo h⟩
def acj{op:Nat}(h:op≠35/\op≠36/\op≠63/\op≠64/\op≠65/\op≠66/\op≠69/\op≠80/\op≠167/\op≠172/\op≠173/\op≠224):((op:Int)==35)=Yj/\((op:Int)==36)=Yj/\((op:Int)==63)=Yj/\((op:Int)==64)=Yj/\((op:Int)==65)=Yj/\((op:Int)==66)=Yj/\((op:Int)==69)=Yj/\((op:Int)==80)=Yj/\((op:Int)==167)=Yj/\((op:Int)==172)=Yj/\((op:Int)==173)=Yj/\((op:Int)==224)=false:=by
 simp only[Vt];omega
theorem ib(h:a<=N/\N<=n):(a:Int)<=N/\(N:Int)<=n:=Y
def Nc{w:Yw}{E:PE}{g:PS}(h:dR w a E g)(d:Int)(op:Nat)(f:op=63\/op=64\/op=69\/(70<=op/\op<=79)\/op=80\/(81<=op/\op<=90)\/(103<=op/\op<=105)\/(106<=op/\op<=120)\/(121<=op/\op<=123)\/(124<=op/\op<=138)\/op=167\/op=172\/op=173\/op=224\/op=225):
  Yy prog 217 #[ptr a,gq op 0 aV aV aV 0,V O d] w λr c=>xy X w c a op {n:=0,ag:=[],value:=0,take:=(rG op).1,put:=(rG op).2,ok:=Yk} r/\dR c a E g/\Kp (one a) w c:=by
 have b:=h.lt;change Hid _ at h;unfold rG;rcases f with rfl |rfl |rfl |c|rfl |c|c|c|c|c|rfl |rfl |rfl |rfl |rfl
 all_goals
  repeat first |rw[Va Y]|rw[Vi Y]
  try have e:=acj (op:=op) Y
  try have i:=ib c
  try simp only[Wj]at i
  go_enter func217,ntmps217;go_wp2;refine bodyPost_ret (v:=_) (by simp[results,results217,go_sem];rfl) U ?_;refine⟨⟨aV,_,_,U,jo _ _ _,?_,?_⟩,h.no (six w _ _ _ _ _ _).2,(six w _ _ _ _ _ _).2.any⟩;all_goals first
   |exact dU _ _ _ _
   |exact jZ b (aq.az (l:=[127]) (six w _ _ _ _ _ _).1.1) Y
   |exact jZ b (aq.az (l:=[126]) (six w _ _ _ _ _ _).1.2.1) Y
   |exact jZ b (aq.az (l:=[127,127]) (six w _ _ _ _ _ _).1.2.2.1) Y
   |exact jZ b (aq.az (l:=[126,126]) (six w _ _ _ _ _ _).1.2.2.2) Y
def yR(w:Yw)(a b c a3 a4 d:Obj):
  ((((((w.alloc a).alloc b).alloc c).alloc a3).alloc a4).alloc d).heap[w.heap.size]?=M a/\
  ((((((w.alloc a).alloc b).alloc c).alloc a3).alloc a4).alloc d).heap[w.heap.size+1]?=M b:=
 ⟨ah (ah (ah (ah (ah (bC _ U))))),ah (ah (ah (ah (bC _ Vc))))⟩
def Uu(E:PE)(a:Int)(b:PS)(c:0<=a):((uM E a b).1:Int)<=a:=by
 by_cases h:bn (uM E a b).2=Yj
 .simp_all[uq]
 .unfold uM at *;grind
def hO(a b:Nat):Nat->Prop:=λk=>k=a\/k=b
def Cb(w:Yw)(a b:Nat)(c d e f g h i:Yx):Kp (hO a b) w (((((((w.setCell ⟨a,1,H⟩ c).setCell ⟨b,0,H⟩ d).setCell ⟨b,1,H⟩ e).setCell ⟨b,2,H⟩ f).setCell ⟨b,3,H⟩ g).setCell ⟨b,4,H⟩ h).setCell ⟨b,5,H⟩ i):=
 (((((((Kp.refl _ _).bE (Yo U) _ _).bE (Yp U) _ _).bE (Yp U) _ _).bE (Yp U) _ _).bE (Yp U) _ _).bE (Yp U) _ _).bE (Yp U) _ _
def Ri(w:Yw)(a b:Nat)(o:Obj)(c d e f g h i:Yx):Kp (hO a b) w ((((((((w.setCell ⟨a,1,H⟩ c).setCell ⟨b,0,H⟩ d).setCell ⟨b,1,H⟩ e).setCell ⟨b,2,H⟩ f).setCell ⟨b,3,H⟩ g).setCell ⟨b,4,H⟩ h).setCell ⟨b,5,H⟩ i).alloc o)/\
  ((((((((w.setCell ⟨a,1,H⟩ c).setCell ⟨b,0,H⟩ d).setCell ⟨b,1,H⟩ e).setCell ⟨b,2,H⟩ f).setCell ⟨b,3,H⟩ g).setCell ⟨b,4,H⟩ h).setCell ⟨b,5,H⟩ i).alloc o).heap[w.heap.size]?=M o:=
 ⟨(Cb w a b c d e f g h i).alloc o,bC o Vc⟩
def qj{w W0 w1 W:Yw}{b:Nat}{E:PE}{c:PS}(e:Kp (one N) W0 w1)(f:dR w1 N E c)(g:N<w.heap.size)(p:w.heap.size<=a)(r:w.heap.size<=b)(d:Kp (hO a b) w1 W)(i:ra X w W N u D)(j:ra X w W N z l)(m:Kp no w W0):
  xy X w W N q {n:=n,ag:=[],value:=0,take:=D,put:=l,ok:=Yk} (Yq (Yu #[gq q n aV aV aV 0,u,z,Yt Yk]))/\dR W N E c/\Kp (one N) w W:=
 ⟨⟨aV,_,_,U,jo _ _ _,i,j⟩,f.keep d (λk o=>by grind[hO]),(m.any.trans e).comp d bW (λk o h=>by grind[hO])⟩
def ql{w W0 w1 W:Yw}(b:n<w.heap.size)(c:Kp (one n) W0 w1)(d:Kp (hO a N) w1 W)(h:W0.heap[q]?=M (Yl (cw l).toArray T))(e:w.heap.size<=q/\q≠a/\q≠N):ra X w W n (Q (M ⟨q,0,H⟩) l.length l.length) l:=
 jZ b (aq.az (d.az (c.az h (by grind[one])) (by grind[hO]))) e.1
def vI(op:Nat):List UInt8×List UInt8:=
 if op=41 then ([127],[126])else if op=54\/op=58 then ([127,127],[])else if op=55 then ([127,126],[])else ([127],[127])
def JX{w:Yw}{E:PE}{e:PS}(h:dR w a E e)(g:Int)(b:Nat)(i:b=40\/b=41\/b=44\/b=45\/b=54\/b=58):
  Yy prog 217 #[ptr a,gq b 0 aV aV aV 0,V O g] w λr d=>xy X w d a b {n:=(uM E 4294967295 e).1,ag:=[],value:=0,take:=(vI b).1,put:=(vI b).2,ok:=Yk} r/\dR d a E (uM E 4294967295 e).2/\Kp (one a) w d:=by
 have c:=h.lt;have p:=Uu E 4294967295 e Vb;have q:=λ(W:Yw) (d:dR W a E e)=>kH d 4294967295
 generalize(uM E 4294967295 e).1=n at *;generalize(uM E 4294967295 e).2=r at *;obtain⟨o,s⟩:=bL (b:Int);rcases i with rfl |rfl |rfl |rfl |rfl |rfl
 all_goals
  go_enter func217,ntmps217;go_wp2_with fail;refine(q _ (h.no (six w _ _ _ _ _ _).2)).bw ?_;rintro j⟨t,d⟩;obtain⟨u,x⟩:=ae (d.az (yR w _ _ _ _ _ _).1 (by unfold one;omega));obtain⟨k,y⟩:=ae (d.az (yR w _ _ _ _ _ _).2 (by unfold one;omega));have z:w.heap.size<j.heap.size:=by have:=d.size;simp at this;omega
  have m:w.heap.size+1<j.heap.size:=by have:=d.size;simp at this;omega
  go_wp2;refine bodyPost_ret (v:=_) (by simp[results,results217,go_sem,k,m];rfl) U ?_;have f:=Cb j w.heap.size (w.heap.size+1) (V Yr n) (V Ys o) (V Yr n) aV aV aV (V O 0);rw[s]at f;refine qj d t c Y Y f ?_ ?_ (six w _ _ _ _ _ _).2;all_goals first
   |exact dU _ _ _ _
   |exact ql (l:=[127]) c d f (six w _ _ _ _ _ _).1.1 Y
   |exact ql (l:=[126]) c d f (six w _ _ _ _ _ _).1.2.1 Y
   |exact ql (l:=[127,127]) c d f (six w _ _ _ _ _ _).1.2.2.1 Y
def IK{w:Yw}{E:PE}{e:PS}(h:dR w a E e)(i:Int)(f b:Nat)(j:f=65/\b=32\/f=66/\b=64):
  Yy prog 217 #[ptr a,gq f 0 aV aV aV 0,V O i] w λr d=>xy X w d a f {n:=(sM E b e).1,ag:=[],value:=0,take:=[],put:=if f=65 then [127]else [126],ok:=Yk} r/\dR d a E (sM E b e).2/\Kp (one a) w d:=by
 have c:=h.lt;have q:=λ(W:Yw) (d:dR W a E e)=>Nb d b Y
 generalize(sM E b e).1=n at *;generalize(sM E b e).2=r at *;obtain⟨o,s⟩:=bL (f:Int);rcases j with⟨rfl,rfl⟩|⟨rfl,rfl⟩
 all_goals
  go_enter func217,ntmps217;go_wp2_with fail;refine(q _ (h.no (six w _ _ _ _ _ _).2)).bw ?_;rintro k⟨t,d⟩;obtain⟨u,x⟩:=ae (d.az (yR w _ _ _ _ _ _).1 (by unfold one;omega));obtain⟨m,y⟩:=ae (d.az (yR w _ _ _ _ _ _).2 (by unfold one;omega));have z:w.heap.size<k.heap.size:=by have:=d.size;simp at this;omega
  have p:w.heap.size+1<k.heap.size:=by have:=d.size;simp at this;omega
  go_wp2;refine bodyPost_ret (v:=_) (by simp[results,results217,go_sem,m,p];rfl) U ?_;have g:=Cb k w.heap.size (w.heap.size+1) (V Yr n) (V Ys o) (V Yr n) aV aV aV (V O 0);rw[s]at g;refine qj d t c Y Y g ?_ ?_ (six w _ _ _ _ _ _).2;all_goals first
   |exact dU _ _ _ _
   |exact ql (l:=[127]) c d g (six w _ _ _ _ _ _).1.1 Y
   |exact ql (l:=[126]) c d g (six w _ _ _ _ _ _).1.2.1 Y
def Nf{w:Yw}{E:PE}{c:PS}(h:dR w N E c)(g:Int):
  Yy prog 217 #[ptr N,gq 55 0 aV aV aV 0,V O g] w λr e=>xy X w e N 55 {n:=(uM E 4294967295 c).1,ag:=[],value:=0,take:=[127,126],put:=[],ok:=Yk} r/\dR e N E (uM E 4294967295 c).2/\Kp (one N) w e:=by
 have d:=h.lt;have k:=Uu E 4294967295 c Vb;have m:=λ(W:Yw) (e:dR W N E c)=>kH e 4294967295
 generalize(uM E 4294967295 c).1=n at *;generalize(uM E 4294967295 c).2=o at *;go_enter func217,ntmps217;go_wp2_with fail;refine(m _ (h.no (six w _ _ _ _ _ _).2)).bw ?_;rintro f⟨p,e⟩;obtain⟨q,r⟩:=ae (e.az (yR w _ _ _ _ _ _).1 (by unfold one;omega));obtain⟨i,s⟩:=ae (e.az (yR w _ _ _ _ _ _).2 (by unfold one;omega));have t:w.heap.size<f.heap.size:=by have:=e.size;simp at this;omega
 have j:w.heap.size+1<f.heap.size:=by have:=e.size;simp at this;omega
 go_wp2;refine bodyPost_ret (v:=_) (by simp[results,results217,go_sem,i,j];rfl) U ?_;exact qj e p d (a:=w.heap.size) (b:=w.heap.size+1) Y Y (Ri f _ _ _ _ _ _ _ _ _ _).1 (jZ d (aq.az (l:=[127,126]) (Ri f _ _ _ _ _ _ _ _ _ _).2) Y) (dU _ _ _ _) (six w _ _ _ _ _ _).2
def _root_.Go.Proofs.YtdeplgkhmebalaaGreatDoor.aq.at(h:aq X (Q (M ⟨a,N,H⟩) q B) l)(n:Nat)(e:n<l.length):aq X (Q (M ⟨a,N+n,H⟩) 1 (B-n)) [l.getD n 0]:=by
 rcases h.cases with⟨b,-⟩|⟨f,g,c,b,i,d⟩
 .cases b
 .cases b;refine aq.mk (l:=[l.getD n 0]) Vd (λk j=>?_);grind
theorem dx(h:n<X.heap.size)(x:Obj)(o:Nat):(X.alloc x).cell? ⟨n,o,H⟩=X.cell? ⟨n,o,H⟩:=World.cell?_of_block (Below.heap_alloc _ _ _ h)
def xz(h:n<X.heap.size)(a b c a3 a4 d:Obj)(o:Nat):((((((X.alloc a).alloc b).alloc c).alloc a3).alloc a4).alloc d).cell? ⟨n,o,H⟩=X.cell? ⟨n,o,H⟩:=by
 rw[dx Vd,dx Vd,dx Vd,dx Vd,dx Vd,dx h]
def eK(E:PE)(G:ez)(op:Nat)(σ:PS):IR×PS:=
 let r:=uM E ((G.bg.length:Int)-1) σ
 if bn r.2 then ({n:=0,ag:=[],value:=0,take:=[],put:=[],ok:=Yj},r.2)else
 let t:=[G.bg.getD r.1 0]
 ({n:=r.1,ag:=[],value:=0,take:=if op=32 then []else t,put:=if op=33 then []else t,ok:=Yk},r.2)
def jJ(h:X.cell? ⟨a,n,H⟩=M u):a<X.heap.size:=by
 grind[World.cell?]
def DI(w:Yw)(a b:Nat)(c d e f g h:Yx):Kp (hO a b) w ((((((w.setCell ⟨b,0,H⟩ c).setCell ⟨b,1,H⟩ d).setCell ⟨b,2,H⟩ e).setCell ⟨b,3,H⟩ f).setCell ⟨b,4,H⟩ g).setCell ⟨b,5,H⟩ h):=
 ((((((Kp.refl _ _).bE (Yp U) _ _).bE (Yp U) _ _).bE (Yp U) _ _).bE (Yp U) _ _).bE (Yp U) _ _).bE (Yp U) _ _
theorem JY{w:Yw}{E:PE}{j:PS}(h:dR w N E j)(q:ni X N E s)(k0:Kp (one N) X w)(G:Int)(l:Nat)(I:l=32\/l=33\/l=34):
  Yy prog 217 #[ptr N,gq l 0 aV aV aV 0,V O G] w λr a=>xy X w a N l (eK E s l j).1 r/\dR a N E (eK E s l j).2/\Kp (one N) w a:=by
 obtain⟨R,e⟩:=bL (eK E s l j);rw[<-e];unfold eK at e;dsimp only at e;have r:=q.kp k0;have J:=h.lt;obtain⟨i,h3,pl,hi,p,-,-⟩:=h.dT;obtain⟨hc,-⟩:=ae p;have K:=uq E ((s.bg.length:Int)-1) j;have hu:=λ(W:Yw) (a:dR W N E j)=>kH a ((s.bg.length:Int)-1)
 have hL:=r.Ut;generalize(uM E ((s.bg.length:Int)-1) j).1=n at *;generalize(uM E ((s.bg.length:Int)-1) j).2=L at *;obtain⟨ad,P,c,h4⟩:=r.jG.aJ;rw[c]at hc;have h5:=λa b d a3 a4 f o=>xz J a b d a3 a4 f o
 rcases I with rfl |rfl |rfl
 all_goals
  go_enter func217,ntmps217;go_wp2_with fail;refine(hu _ (h.no (six w _ _ _ _ _ _).2)).bw ?_;rintro f⟨t,u⟩;obtain⟨h6,h7⟩:=ae (u.az (yR w _ _ _ _ _ _).1 (by unfold one;omega));obtain⟨x,h8⟩:=ae (u.az (yR w _ _ _ _ _ _).2 (by unfold one;omega));obtain⟨i1,h9,k1,k2,S,-,-⟩:=t.dT;obtain⟨T,-⟩:=ae S;rw[c]at T;have k3:w.heap.size<f.heap.size:=by have:=u.size;simp at this;omega
  have k4:w.heap.size+1<f.heap.size:=by have:=u.size;simp at this;omega
  have m:=(six w _ _ _ _ _ _).2.any.trans u;have y:=Z (r.kp m);have e:=e;by_cases g:bn L=Yk
  .rw[Vi g]at e;go_wp2_with fail;refine(bz t).cJ ?_;go_wp2;refine bodyPost_ret (v:=_) (by simp[results,results217,go_sem,x];rfl) U ?_;rw[e];exact⟨⟨aV,_,_,U,jo _ _ _,dU _ _ _ _,dU _ _ _ _⟩,t.keep (DI f w.heap.size (w.heap.size+1) _ _ _ _ _ _) (λk hk=>by unfold hO;omega),m.comp (DI f w.heap.size (w.heap.size+1) _ _ _ _ _ _) bW (λk hk h=>by unfold hO at h;omega)⟩
  .rw[Va g]at e;simp only[VG]at g;have hn:=K g;have d:n<s.bg.length:=Y
   go_wp2_with fail;refine(bz t).cJ ?_;rcases y.jG.cases with⟨hv,h0⟩|⟨a,o,k5,hv,k6,-⟩
   .rw[h0]at d;simp at d
   .rw[c]at hv;cases hv;go_wp2;refine bodyPost_ret (v:=_) (by simp[results,results217,go_sem,x];rfl) U ?_;have z:=r.jG;rw[c]at z;obtain⟨a',o',c',h1,_,h2⟩:=z.get d;cases h1;have k7:=jJ h2;have A:=y.jG;rw[c]at A;have B:=q.jG;rw[c]at B;have C:=B.at n d;have D:=λW (F:Kp (hO w.heap.size (w.heap.size+1)) f W)=>(A.at n d).kp F (λb p h=>by simp only[Value.ownBlock,Vu]at p;unfold hO at h;omega)
    have F:rF N (Q (M ⟨a,o+n,H⟩) 1 (P-n)):=λb p=>by
     simp only[Value.ownBlock,Vu]at p;subst p;exact r.Rh a (by rw[c];rfl)
    rw[e];exact⟨⟨aV,_,_,U,jo _ _ _,by first |exact dU _ _ _ _|exact⟨F,D _ (Cb f w.heap.size (w.heap.size+1) _ _ _ _ _ _ _),Yo C⟩,by first |exact dU _ _ _ _|exact⟨F,D _ (Cb f w.heap.size (w.heap.size+1) _ _ _ _ _ _ _),Yo C⟩⟩,t.keep (Cb f w.heap.size (w.heap.size+1) _ _ _ _ _ _ _) (λk hk=>by unfold hO;omega),m.comp (Cb f w.heap.size (w.heap.size+1) _ _ _ _ _ _ _) bW (λk hk h=>by unfold hO at h;omega)⟩
def dn(E:PE)(G:ez)(op:Nat)(σ:PS):IR×PS:=
 let r:=uM E ((G.bO.length:Int)-1) σ
 if bn r.2 then ({n:=0,ag:=[],value:=0,take:=[],put:=[],ok:=Yj},r.2)else
 let g:=G.bO.getD r.1 (0,0,0)
 ({n:=r.1,ag:=[],value:=0,take:=if op=35 then []else [g.1],put:=if op=36 then []else [g.1],ok:=if op=35 then Yk else g.2.1==1},r.2)
def Rj{w:Yw}{E:PE}{c:PS}(h:dR w N E c)(F:ni X N E s)(k0:Kp (one N) X w)(y:Int):
  (Yy prog 217 #[ptr N,gq 35 0 aV aV aV 0,V O y] w λr a=>xy X w a N 35 (dn E s 35 c).1 r/\dR a N E (dn E s 35 c).2/\Kp (one N) w a)/\
  Yy prog 217 #[ptr N,gq 36 0 aV aV aV 0,V O y] w λr a=>xy X w a N 36 (dn E s 36 c).1 r/\dR a N E (dn E s 36 c).2/\Kp (one N) w a:=by
 refine⟨?_,?_⟩;all_goals
  first
  |obtain⟨R,u⟩:∃R,dn E s 35 c=R:=⟨_,U⟩
   rw[u];have j:R=(if bn (uM E ((s.bO.length:Int)-1) c).2 then ({n:=0,ag:=[],value:=0,take:=[],put:=[],ok:=Yj},(uM E ((s.bO.length:Int)-1) c).2)else ({n:=(uM E ((s.bO.length:Int)-1) c).1,ag:=[],value:=0,take:=[],put:=[(s.bO.getD (uM E ((s.bO.length:Int)-1) c).1 (0,0,0)).1],ok:=Yk},(uM E ((s.bO.length:Int)-1) c).2)):=u.symm
  |obtain⟨R,u⟩:∃R,dn E s 36 c=R:=⟨_,U⟩
   rw[u];have j:R=(if bn (uM E ((s.bO.length:Int)-1) c).2 then ({n:=0,ag:=[],value:=0,take:=[],put:=[],ok:=Yj},(uM E ((s.bO.length:Int)-1) c).2)else ({n:=(uM E ((s.bO.length:Int)-1) c).1,ag:=[],value:=0,take:=[(s.bO.getD (uM E ((s.bO.length:Int)-1) c).1 (0,0,0)).1],put:=[],ok:=(s.bO.getD (uM E ((s.bO.length:Int)-1) c).1 (0,0,0)).2.1==1},(uM E ((s.bO.length:Int)-1) c).2)):=u.symm
  clear u;have hE:=F.kp k0;have p:=h.lt;obtain⟨i,h5,pl,hi,G,-,-⟩:=h.dT;obtain⟨hc,-⟩:=ae G;have I:=uq E ((s.bO.length:Int)-1) c;have hu:=λ(W:Yw) (a:dR W N E c)=>kH a ((s.bO.length:Int)-1)
  have hL:=hE.F4;generalize(uM E ((s.bO.length:Int)-1) c).1=n at *;generalize(uM E ((s.bO.length:Int)-1) c).2=J at *;obtain⟨mb,tv,fv,gv,h6,hm,K,q,-,hg⟩:=hE.mod;have L:=au q;obtain⟨h7,r,P⟩:=hg.row;obtain⟨ad,h8,rfl,h9⟩:=r.aJ;obtain⟨k1,-⟩:=ae q;rw[hm]at hc;have S:=Z hg.JQ;have k2:=λz a b a3 a4 d o=>xz p z a b a3 a4 d o
  have k3:=λz a b a3 a4 d o=>xz L z a b a3 a4 d o
  go_enter func217,ntmps217;go_wp2_with fail;refine(hu _ (h.no (by grind[six]))).bw ?_;rintro d⟨x,A⟩;obtain⟨k4,k5⟩:=ae (A.az (yR w _ _ _ _ _ _).1 (by grind[one]));obtain⟨t,k6⟩:=ae (A.az (yR w _ _ _ _ _ _).2 (by grind[one]));obtain⟨i1,k7,k8,k9,T,-,-⟩:=x.dT;obtain⟨W,-⟩:=ae T;rw[hm]at W;have w0:w.heap.size<d.heap.size:=by have:=A.size;simp at this;omega
  have B:w.heap.size+1<d.heap.size:=by have:=A.size;simp at this;omega
  have f:=Kp.trans (six w _ _ _ _ _ _).2.any A;obtain⟨w1,-⟩:=ae (f.az q K);have w2:N<d.heap.size:=Y
  have w3:mb<d.heap.size:=Y
  have j:=j;by_cases m:bn J=Yk
  .rw[Vi m]at j;go_wp2_with fail;refine(bz x).cJ ?_;go_wp2;refine bodyPost_ret (v:=_) (by simp[results,results217,go_sem,t];rfl) U ?_;rw[j];exact⟨⟨aV,_,_,U,jo _ _ _,dU _ _ _ _,dU _ _ _ _⟩,x.keep (DI d w.heap.size (w.heap.size+1) _ _ _ _ _ _) (λk C=>by grind[hO]),f.comp (DI d w.heap.size (w.heap.size+1) _ _ _ _ _ _) bW (λk C h=>by grind[hO])⟩
  .rw[Va m]at j;simp only[VG]at m;have hn:=I m;have w4:n<s.bO.length:=Y
   have h0:s.bO[n]?=M (s.bO.getD n (0,0,0)):=Ve
   obtain⟨c1,c2,-⟩:=P n _ h0;obtain⟨z,o0,w5,h1,_,h2⟩:=r.get c1;cases h1;have w6:=jJ h2;have D:=r.kp f (λb G e=>S b G e);obtain⟨a,o,w7,hv,_,w8⟩:=D.get c1;obtain⟨a',o',w9,h3,_,h4⟩:=D.get c2;cases hv;cases h3;rw[<-VR]at h4;have j:=j;generalize s.bO.getD n (0,0,0)=g at *;have e0:z<d.heap.size:=Y
   have hq:=lH g.2.1 1;rw[show(((1:UInt8).toNat:Nat):Int)=1 from U]at hq;go_wp2_with fail;refine(bz x).cJ ?_;first
   |go_wp2
    refine bodyPost_ret (v:= Yu #[gq 35 n aV aV aV 0,aV,Q (M ⟨d.heap.size,0,H⟩) 1 1,Yt Yk]) (by simp[results,results217,go_sem,t,B]) U ?_;have b:=Ri d w.heap.size (w.heap.size+1) (Yl #[V Ys g.1.toNat] 5) (V Yr n) (V Ys 35) (V Yr n) aV aV aV (V O 0);have e:=b.1;rw[j];exact⟨⟨aV,_,_,U,jo _ _ _,dU _ _ _ _,jZ p (aq.az (l:=[g.1]) b.2) Y⟩,x.keep e (λk C=>by grind[hO]),f.comp e bW (λk C h=>by grind[hO])⟩
   |go_wp2
    go_region
    go_wp2;refine bodyPost_ret (v:= Yu #[gq 36 n aV aV aV 0,Q (M ⟨d.heap.size,0,H⟩) 1 1,aV,Yt (g.2.1==1)]) (by simp[results,results217,go_sem,t,B]) U ?_;have b:=Ri d w.heap.size (w.heap.size+1) (Yl #[V Ys g.1.toNat] 5) (V Yr n) (V Ys 36) (V Yr n) aV aV aV (V O 0);have e:=b.1.drew;rw[j];exact⟨⟨aV,_,_,U,jo _ _ _,jZ p (aq.az (l:=[g.1]) b.2) Y,dU _ _ _ _⟩,x.keep e (λk C=>by grind[hO]),f.comp e bW (λk C h=>by grind[hO])⟩
def iX(E:PE)(G:ez)(op:Nat)(σ:PS):IR×PS:=
 if 32<=op/\op<=34 then eK E G op σ
 else if op=35\/op=36 then dn E G op σ
 else if 40<=op/\op<=58 then ({n:=(uM E 4294967295 σ).1,ag:=[],value:=0,take:=(vI op).1,put:=(vI op).2,ok:=Yk},(uM E 4294967295 σ).2)
 else if op=65 then ({n:=(sM E 32 σ).1,ag:=[],value:=0,take:=[],put:=[127],ok:=Yk},(sM E 32 σ).2)
 else if op=66 then ({n:=(sM E 64 σ).1,ag:=[],value:=0,take:=[],put:=[126],ok:=Yk},(sM E 64 σ).2)
 else ({n:=0,ag:=[],value:=0,take:=(rG op).1,put:=(rG op).2,ok:=Yk},σ)
def eL(op:Nat):Prop:=
 (32<=op/\op<=36)\/op=40\/op=41\/op=44\/op=45\/op=54\/op=55\/op=58\/(63<=op/\op<=66)\/(69<=op/\op<=90)\/(103<=op/\op<=138)\/op=167\/op=172\/op=173\/op=224\/op=225
def F5(E:PE)(G:ez)(a:Nat)(b:PS)(h:40<=a/\a<=58):iX E G a b=({n:=(uM E 4294967295 b).1,ag:=[],value:=0,take:=(vI a).1,put:=(vI a).2,ok:=Yk},(uM E 4294967295 b).2):=by
 unfold iX;grind
def JZ{w:Yw}{E:PE}{c:PS}(h:dR w n E c)(i:ni X n E s)(j:Kp (one n) X w)(b:Int)(a:Nat)(f:eL a):
  Yy prog 217 #[ptr n,gq a 0 aV aV aV 0,V O b] w λr d=>xy X w d n a (iX E s a c).1 r/\dR d n E (iX E s a c).2/\Kp (one n) w d:=by
 have g:(a=32\/a=33\/a=34)\/(a=35\/a=36)\/(a=40\/a=41\/a=44\/a=45\/a=54\/a=58)\/a=55\/(a=65\/a=66)\/(a=63\/a=64\/a=69\/(70<=a/\a<=79)\/a=80\/(81<=a/\a<=90)\/(103<=a/\a<=105)\/(106<=a/\a<=120)\/(121<=a/\a<=123)\/(124<=a/\a<=138)\/a=167\/a=172\/a=173\/a=224\/a=225):=by
  grind[eL]
 unfold iX;rcases g with e|e|e|e|e|e
 .rw[Vi Y];grind[JY]
 .rcases e with rfl |rfl<;>simp_all[Rj]
 .rw[Va Y,Va Y,Vi Y];simp_all[JX]
 .subst e;exact Nf h b
 .rcases e with rfl |rfl
  .exact IK h b 65 32 Vb
  .exact IK h b 66 64 Vb
 .rw[Va Y,Va Y,Va Y,Va Y,Va Y];simp_all[Nc]
def Ng:(Tryz.prog.info? 3).map (λi=>(i.zero,i.size,i.bytes))=M (M (V O 0),1,8):=Vf
def J0:∃i,Tryz.prog.info? 3=M i/\i.zero=M (V O 0)/\i.size=1/\i.bytes=8:=info_parts Ng
def eD(E:PE)(ag:List (List UInt8)):Nat->Nat->List UInt8->Bool->List Int->PS->(List UInt8×Bool×List Int)×PS
 |0,_,first,same,wE,σ=>((first,same,wE),σ)
 |r+1,k,first,same,wE,σ=>
  if bn σ then ((first,same,wE),σ)else
  let x:=bf E ag σ
  let first':=if k=0 then x.1.2 else first
  eD E ag r (k+1) first' (same&&decide (first'=x.1.2)) (wE++[(x.1.1:Int)]) x.2
def er(E:PE)(ag:List (List UInt8))(σ:PS):IR×PS:=
 let u:=uM E 16 σ
 let r:=eD E ag (u.1+1) 0 [] Yk [] u.2
 ({n:=0,ag:=r.1.2.2,value:=r.1.1.length,take:=r.1.1++[127],put:=r.1.1,ok:=r.1.2.1},r.2)
theorem qm{E:PE}{a:List (List UInt8)}{σ:PS}(h:∀l∈a,l.length<=1000):(bf E a σ).1.2.length<=1000:=by
 unfold bf;simp only;split
 .simp
 .simp only[List.getD];cases b:a[a.length-1 - (uM E _ σ).1]? with
  |none=>simp
  |some l=>exact h l (Vw b)
def ur{w:Yw}{E:PE}{σ:PS}(h:dR w a E σ){ag:List (List UInt8)}(hl:fN X a u ag)(k0:Kp (one a) X w)(hn:ag.length<=1000)(h2:∀l∈ag,l.length<=1000):
  Yy prog 216 #[ptr a,gq 14 0 aV aV aV 0,u] w λr b=>xy X w b a 14 (er E ag σ).1 r/\dR b a E (er E ag σ).2/\Kp (one a) w b:=by
 have hM:er E ag σ=({n:=0,ag:=(eD E ag _ 0 [] Yk [] (uM E 16 σ).2).1.2.2,value:=(eD E ag _ 0 [] Yk [] (uM E 16 σ).2).1.1.length,take:=(eD E ag _ 0 [] Yk [] (uM E 16 σ).2).1.1++[127],put:=(eD E ag _ 0 [] Yk [] (uM E 16 σ).2).1.1,ok:=(eD E ag _ 0 [] Yk [] (uM E 16 σ).2).1.2.1},(eD E ag _ 0 [] Yk [] (uM E 16 σ).2).2):=rfl;generalize er E ag σ=R at *;have HS:=Z h;have w7:=h.lt;have y:=Uu E 16 σ Vb;have hu:=λ(W:Yw) (b:dR W a E σ)=>kH b 16
 generalize(uM E 16 σ).1=n at *;generalize(uM E 16 σ).2=h3 at *;generalize hT:eD E ag (n+1) 0 [] Yk [] h3=T at *;have HM:=Z hM;obtain⟨i0,w8,w9,e0,e1⟩:=J0;obtain⟨i1,h4,h5,h6,h7⟩:=mZ;clear h hM;change Hid _ at hu hl k0 h2;replace hT:=Z hT;go_enter func216,ntmps216;go_wp2_with fail;refine(hu _ (HS.no (((Kp.refl no w).alloc _).alloc _))).bw ?_;rintro e9⟨s0,w5⟩;have l:e9.heap[w.heap.size]?=M _:=w5.az (ah (bC _ U)) (by unfold one;omega);have g:e9.heap[w.heap.size+1]?=M (Yl #[V Ys 0,V Yr 0,aV,aV,aV,V O 0] 309):=w5.az (bC _ Vc) (by unfold one;omega);have h8:=Kp.trans (((Kp.refl _ w).alloc _).alloc _) w5;have e2:=Z l;have e3:=Z g;clear l g w5;change Hid _ at s0 h8;go_wp2;go_loopw [11,12,13] (λe d b wr=> ∃(k:Nat) (first :List UInt8) (o:Bool) (c:List Int) (f:PS) (C:Yx),k<=n+1/\b= V O k/\e= Yt o/\aq X d first /\rF a d/\first.length<=1000/\
   wr.heap[w.heap.size]?=M (Yl #[V Ys 14,V Yr 0,C,aV,aV,V O 0] 309)/\wr.heap[w.heap.size+1]?=M (Yl #[V Ys 0,V Yr 0,aV,aV,aV,V O 0] 309)/\
   wr.ownsRow (w.heap.size+2) 3 1 C c.length (c.map (Value.int O))/\c.length=k/\dR wr a E f/\Kp (one a) w wr/\eD E ag (n+1-k) k first o c f=T) (λ_ _ b _=>n+1 - (intOf b).toNat)
 case atStart=>exact⟨0,[],Yk,[],h3,aV,Y,U,U,aq.nil _,rF.nil _,Vc,e2,e3,World.ownsRow_nil _ _ _ _,U,s0,h8,hT⟩
 case round=>
  obtain⟨k,first,o,c,f,C,i,rfl,rfl,m,p,z,l,g,d,A,q,r,B⟩:=hrel;have h9:=Z z;obtain⟨k1,k2,rfl,s2⟩:=m.aJ;obtain⟨D,F⟩:=ae l;obtain⟨G,I⟩:=ae g;obtain⟨J,K,rfl⟩:=aA d;have s3:=au g;clear z;change Hid _ at A q r B;replace d:=Z d;change Hid _ at l g;replace p:=Z p;replace m:=Z m;by_cases L:k<n+1/\bn f=Yj
  .obtain⟨k3,y⟩:=L;have t:=B.out;rw[show n+1-k=(n-k)+1 by omega,eD]at t;rw[Va (by simp[y])]at t;go_wp2_with fail;refine(bz q).cJ ?_;go_wp2_with fail;refine(nh q hl (k0.trans r) hn).mono ?_;rintro e x5⟨s4,rfl,N,k4,s1,w6⟩;have s5:=qm (E:=E) (σ:=f) h2;generalize(bf E ag f).1.1=ln at *;generalize(bf E ag f).1.2=ll at *;generalize(bf E ag f).2=e4 at *;obtain⟨s6,s7,rfl,s8⟩:=N.aJ;have k5:=Z N;have k6:=Z k4;have z:=h9.out;by_cases P:k=0;case' pos=>
    have b:((k:Int)==0)=true:=Vd
    simp only[Vi P]at t;have S:=k5;have W:=k6
   case' neg=>
    have b:((k:Int)==0)=false:=Vd
    simp only[Va P]at t;have S:=m;have W:=p
   all_goals
    clear P;replace t:=Z t;have e5:=Z (w6.az l (by unfold one;omega));have e6:=Z (w6.az g (by unfold one;omega));have e7:=Z (w6.own d (λb j e=>by have:=aK d b j;unfold one at e;omega));have h0:=Z (r.trans w6);clear N k4;change Hid _ at s1;go_wp2_with fail;refine(fq (S.one W (k0.trans h0)) (k5.one k6 (k0.trans h0)) Y).bw ?_;rintro s9 k7;have k8:=Z (k7.az e5 id);have h1:=Z (k7.az e6 id);have k9:=Z (k7.own e7 (λb j h=>h));obtain⟨D,F⟩:=ae k8;obtain⟨G,I⟩:=ae h1;have x0:=au h1;try generalize decide (first =ll)=eq at *
    cases o;all_goals
     go_wp2_with(at_builtin;refine b7 _ U _ _ 44 U _ 3 i0 _ 1 8 underlying44 w8 w9 e0 e1 U Vb _ _ _ U (k9.alloc _) _ 1 [V O ln] U (aw.new _ _ _) (eP U) ?c3 ?c4 ?c5 ?_);case c3=>unfold maxLen;rw[A.out];omega
     case c4=>rw[A.out];omega
     case c5=>simp;omega
     intro v' e8 s w0;obtain⟨w1,w2,rfl⟩:=aA s;have x:=((Kp.refl (λk=>w.heap.size+2<=k) s9).alloc _).bS w0 (λk i=> Yo (aK k9 k i));have w3:=Z (x.az k8 Y);have w4:=Z (x.az h1 Y);obtain⟨x1,x2⟩:=ae w3;obtain⟨x3,x4⟩:=ae w4;clear w0 D G F I;replace s:=Z s;go_wp2;go_roundw;case rel=>
      refine⟨k+1,_,_,c++[(ln:Int)],e4,Q w1 (c.length+1) w2,Y,by go_num,U,S,W,Y,?_,?_,?_,?_,?_,?_,?_⟩
      .exact heap_setCell w3 _
      .exact aB Y _ w4
      .have :=(Kp.bE (Kp.refl (λk=>k=w.heap.size) e8) U 2 (Q w1 (c.length+1) w2)).own s (λb j e=>cj (aK s b j));simpa using this
      .simp[A.out]
      .exact((s1.no k7).keep x (λk i=>Y)).keep (Kp.bE (Kp.refl _ e8) U 2 _) (λk i=>Y)
      .exact(((h0.then k7).comp x bW (λk i h=>Y)).comp (Kp.bE (Kp.refl _ e8) U 2 _) bW (λk i h=>Y))
      .rw[<-t.out,show n+1 - (k+1)=n-k by omega];simp
     case measure=>simp[intOf];omega
  .rcases VE k (n+1)with k3|k3
   case' inl=>
    have y:bn f=true:=by cases N:bn f<;>simp_all
    have s:=B.out;rw[show n+1-k=(n-k)+1 by omega,eD,Vi y]at s;clear L;go_wp2_with fail;refine(bz q).bw ?_;rintro P t;obtain rfl :=t.symm
   case' inr=>
    have s:=B.out;rw[show n+1-k=0 by omega,eD]at s;clear L
   all_goals
    have hM:=HM.out;rw[<-s]at hM;have z:=h9.out;clear s;change Hid _ at hM;go_wp2_with(at_builtin;refine b7 _ U _ _ 25 U wr.heap.size 5 i1 _ 1 1 underlying25 h4 h5 h6 h7 U Vb _ _ _ U (World.ownsRow_nil _ _ _ _) _ first.length (cw first) U ?c2 (bV _) ?c3 ?c4 Vc ?_);case c2=>exact m.one p (k0.trans (r.cq cQ _ _))
    case c3=>unfold maxLen;omega
    case c4=>omega
    intro v6 e4 s N;obtain⟨e5,e6,rfl⟩:=aA s;have k6:=(r.cq cQ _ _).bS N (λk i=>by cases i);have t:=(Kp.refl no _).bS N (λk i=>by cases i);have P:=Z (t.az (heap_setCell l _) id);have S:=Z (t.az (aB Y _ g) id);have k7:=Z (t.own ((Kp.bE (Kp.refl _ wr) U 5 _).own d (λb j e=>cj (aK d b j))) (λb j h=>h));have k8:=Z ((q.keep (Kp.bE (Kp.refl _ wr) U 5 _) (λk i=>Y)).no t);have e7:wr.heap.size<=e4.heap.size:=by have:=t.size;simpa using this
    obtain⟨k9,w0⟩:=ae P;obtain⟨w1,w2⟩:=ae S;clear N D G F I;replace s:=Z s;go_wp2_with(at_builtin;refine b7 _ U _ _ 25 U wr.heap.size 5 i1 _ 1 1 underlying25 h4 h5 h6 h7 U Vb _ _ _ U (s.alloc _) _ 1 [V Ys 127] U (aw.new _ _ _) (eP U) ?c3 ?c4 ?c5 ?_);case c3=>unfold maxLen;omega
    case c4=>omega
    case c5=>simp;omega
    intro v7 e8 e W;obtain⟨h0,h1,rfl⟩:=aA e;have x:=((Kp.refl (λk=>wr.heap.size<=k) e4).alloc _).bS W (λk i=> Yo (aK s k i));obtain⟨s1,s4⟩:=ae (x.az P Y);obtain⟨w3,s5⟩:=ae (x.az S Y);have w4:=Z (k8.keep x (λk i=>Y));clear W k9 w1 w0 w2;replace e:=Z e;go_wp2;refine bodyPost_ret (v:= Yu #[gq 14 0 (Q J c.length K) aV aV first.length,Q h0 (first.length+1) h1,Q k1 first.length k2,Yt o]) (by simp[results,results216,go_sem,w3]) U ?_;have kf:=DI e8 w.heap.size (w.heap.size+1) (V Ys 14) (V Yr 0) (Q J c.length K) aV aV (V O first.length);have k4:Kp _ w _:=(k6.comp x bW (λk i h=>Y)).comp kf bW (λk i h=>by unfold hO at h;omega);have w6:=kf.own (x.own k7 (λb j h=>cj ((d.lt b j).2))) (λb j h=>by have:=aK d b j;unfold hO at h;omega);have k5:=kf.own e (λb j h=>by have:=aK e b j;unfold hO at h;omega);rw[hM.out];refine⟨⟨Q J c.length K,Q h0 _ h1,Q k1 first.length k2,U,⟨λb j=>cj (aK d b j),aw.own w6,λb j=>cj (aK d b j)⟩,Ca w7 k5 ?_ Y,mf p m (k0.trans k4)⟩,w4.keep kf (λk i=>by unfold hO;omega),k4⟩;have:=aw.own k5;simpa[aq]using this
def kZ(w:Yw)(a b c:Obj):((((w.alloc a).alloc b).alloc c).heap[w.heap.size]?=M a/\(((w.alloc a).alloc b).alloc c).heap[w.heap.size+1]?=M b/\(((w.alloc a).alloc b).alloc c).heap[w.heap.size+1+1]?=M c)/\Kp no w (((w.alloc a).alloc b).alloc c):=
 ⟨⟨ah (ah (bC _ U)),ah (bC _ Vc),bC _ Vc⟩,(((Kp.refl no w).alloc _).alloc _).alloc _⟩
def nU(h:n<X.heap.size)(a b c:Obj)(o:Nat):(((X.alloc a).alloc b).alloc c).cell? ⟨n,o,H⟩=X.cell? ⟨n,o,H⟩:=by
 grind[dx,World.size_alloc]
def T4(w:Yw)(a c b:Nat)(d e f g h i j:Yx):Kp (hO a b) w (((((((w.setCell ⟨a,c,H⟩ d).setCell ⟨b,0,H⟩ e).setCell ⟨b,1,H⟩ f).setCell ⟨b,2,H⟩ g).setCell ⟨b,3,H⟩ h).setCell ⟨b,4,H⟩ i).setCell ⟨b,5,H⟩ j):=
 (((((((Kp.refl _ _).bE (Yo U) _ _).bE (Yp U) _ _).bE (Yp U) _ _).bE (Yp U) _ _).bE (Yp U) _ _).bE (Yp U) _ _).bE (Yp U) _ _
theorem eS.az(h:X.heap[n]?=M (Yl #[V O y] T)):eS X (Q (M ⟨n,0,H⟩) 1 1) [y]:=
 ⟨U,Yp ⟨n,0,1,U,cQ,λk u a=>by
  grind[World.cell?]⟩⟩
theorem _root_.Go.Proofs.YtdeplgkhmebalaaGreatDoor.aq.lt(h:aq X u l)(e:l≠[]):∀b,u.ownBlock=M b->b<X.heap.size:=by
 intro b d;have c:0<l.length:=Vs.2 e;obtain⟨a,o,f,rfl,-,g⟩:=h.get c;simp only[Value.ownBlock,Vu]at d;subst d;exact jJ g
theorem _root_.Go.Proofs.YtdeplgkhmebalaaGreatDoor.aq.empty{w':Yw}(h:aq X u []):aq w' u []:=by
 obtain⟨c,h|⟨a,o,b,rfl,d,-⟩⟩:=h
 .exact⟨c,Yo h⟩
 .exact⟨c,Yp ⟨a,o,b,U,d,λk x e=>by simp at e⟩⟩
theorem xx.on{w w1 w2:Yw}(h:xx X w1 n u L)(k:Kp P w1 w2)(c:w.heap.size<=X.heap.size)(hS:∀b,P b->b<X.heap.size):xx w w2 n u L:=
 ⟨h.1,aw.kp h.2.1 k (λb a e=>by have:=h.2.2 b a;grind),λb a=>cj (h.2.2 b a)⟩
theorem ra.on{w W w1 w2:Yw}(h:ra X W w1 n u l)(c:Kp (one n) X w)(k:Kp P w1 w2)(j:w.heap.size<=W.heap.size)(hS:∀b,P b->w.heap.size<=b/\b<W.heap.size):ra X w w2 n u l:=by
 obtain⟨d,f,a⟩:=h;refine⟨d,?_,?_⟩
 .rcases a with a|a
  .by_cases g:l=[]
   .grind[aq.empty]
   .exact f.kp k (λb i e=>by have:=a.lt g b i;have:=hS b e;have:=c.size;omega)
  grind[aq.kp]
 grind
def J1(h:n<X.heap.size)(a b c a3:Obj)(o:Nat):((((X.alloc a).alloc b).alloc c).alloc a3).cell? ⟨n,o,H⟩=X.cell? ⟨n,o,H⟩:=by
 grind[dx,World.size_alloc]
def aX(E:PE)(G:ez)(ag:List (List UInt8))(stack:List UInt8)(op:Nat)(σ:PS):IR×PS:=
 if op=0\/op=1 then ({n:=0,ag:=[],value:=0,take:=[],put:=[],ok:=Yk},σ)
 else if op=2\/op=3\/op=4 then ({n:=(cB E 64 127 126 σ).1.toNat,ag:=[],value:=0,take:=if op=4 then [127]else [],put:=[],ok:=Yk},(cB E 64 127 126 σ).2)
 else if op=12\/op=13 then ({n:=0,ag:=[((bf E ag σ).1.1:Int)],value:=(bf E ag σ).1.2.length,take:=(bf E ag σ).1.2++(if op=13 then [127]else []),put:=(bf E ag σ).1.2,ok:=Yk},(bf E ag σ).2)
 else if op=14 then er E ag σ
 else if op=15 then ({n:=0,ag:=[(ag.length:Int)-1],value:=(ag.getD 0 []).length,take:=ag.getD 0 [],put:=ag.getD 0 [],ok:=Yk},σ)
 else if op=16 then
  (if bn (uM E ((G.funcs.length:Int)-1) σ).2 then ({n:=0,ag:=[],value:=0,take:=[],put:=[],ok:=Yj},(uM E ((G.funcs.length:Int)-1) σ).2)else
  ({n:=(uM E ((G.funcs.length:Int)-1) σ).1,ag:=[],value:=0,take:=(G.funcs.getD (uM E ((G.funcs.length:Int)-1) σ).1 ([],[])).1,put:=(G.funcs.getD (uM E ((G.funcs.length:Int)-1) σ).1 ([],[])).2,ok:=Yk},(uM E ((G.funcs.length:Int)-1) σ).2))
 else if op=26 then (if stack=[]then ({n:=0,ag:=[],value:=0,take:=[],put:=[],ok:=Yj},σ)else ({n:=0,ag:=[],value:=0,take:=[stack.getD (stack.length-1) 0],put:=[],ok:=Yk},σ))
 else if op=27 then (if stack.length<3 then ({n:=0,ag:=[],value:=0,take:=[],put:=[],ok:=Yj},σ)else ({n:=0,ag:=[],value:=0,take:=[stack.getD (stack.length-2) 0,stack.getD (stack.length-2) 0,127],put:=[stack.getD (stack.length-2) 0],ok:=Yk},σ))
 else iX E G op σ
structure T5(w:Yw)(pb:Nat)(E:PE)(G:ez)(ag:List (List UInt8))(stack:List UInt8)(lv sv:Yx):Prop where
 env:ni w pb E G
 lab:fN w pb lv ag
 Uv:ag.length<=1000
 rp:∀l∈ag,l.length<=1000
 aaV:0<ag.length
 QY:aq w sv stack
 aaW:rF pb sv
 Rk:stack.length<=100000000
section
abbrev Nh(w0 w:Yw)(pb:Nat)(E:PE)(R:IR×PS)(op:Nat):Ending->Yw->Prop:=λr w'=>xy w0 w w' pb op R.1 r/\dR w' pb E R.2/\Kp (one pb) w w'
variable{w0 w:World}{pb:Nat}{E:PE}{G:ez}{ag:List (List UInt8)}{stack:List UInt8}{lv sv:Value}{σ:PS}(h:T5 w0 pb E G ag stack lv sv)(hst:dR w pb E σ)(k0:Kp (one pb) w0 w)(dY:Int)
include h hst k0
def Rm(a:Nat)(b:a=0\/a=1):Yy prog 192 #[ptr pb,V Ys a,V O dY,sv,lv] w (Nh w0 w pb E (aX E G ag stack a σ) a):=by
 rcases b with rfl |rfl
 all_goals
  clear h k0;change Hid _ at hst;go_enter func192,ntmps192;go_wp2;refine bodyPost_ret (v:=_) (by simp[results,results192,go_sem];rfl) U ?_;exact⟨⟨aV,aV,aV,U,jo _ _ _,dU _ _ _ _,dU _ _ _ _⟩,hst.no ((((Kp.refl no w).alloc _).alloc _).alloc _),((((Kp.refl no w).alloc _).alloc _).alloc _).any⟩
def Rn(a:Nat)(b:a=2\/a=3\/a=4):Yy prog 192 #[ptr pb,V Ys a,V O dY,sv,lv] w (Nh w0 w pb E (aX E G ag stack a σ) a):=by
 have g:aX E G ag stack a σ=({n:=(cB E 64 127 126 σ).1.toNat,ag:=[],value:=0,take:=if a=4 then [127]else [],put:=[],ok:=Yk},(cB E 64 127 126 σ).2):=by unfold aX;rw[Va Y,Vi b]
 rw[g];have c:=hst.lt;obtain⟨o,i⟩:=bL (a:Int);have j:=λ(W:Yw) (d:dR W pb E σ)=>oZ d 64 127 126
 generalize(cB E 64 127 126 σ).1=x at *;generalize(cB E 64 127 126 σ).2=l at *;have s:=x.toNat_lt;clear h k0 g;change Hid _ at hst i j;rcases b with rfl |rfl |rfl
 all_goals
  go_enter func192,ntmps192;go_wp2_with fail;refine(j _ (hst.no (kZ w _ _ _).2)).bw ?_;rintro m⟨k,d⟩;obtain⟨e,p⟩:=ae (d.az (kZ w _ _ _).1.1 (by unfold one;omega));obtain⟨q,r⟩:=ae (d.az (kZ w _ _ _).1.2.1 (by unfold one;omega));change Hid _ at k;go_wp2;refine bodyPost_ret (v:=_) (by simp[results,results192,go_sem,e];rfl) U ?_;have f:=Cb m (w.heap.size+1) w.heap.size (V Yr x.toNat) (V Ys o) (V Yr x.toNat) aV aV aV (V O 0);rw[i.out]at f;refine qj d k c Y Y f ?_ (dU _ _ _ _) (kZ w _ _ _).2;first
   |exact dU _ _ _ _
   |exact ql c d f (kZ w _ _ _).1.2.2 Y
def Ro:
  Yy prog 192 #[ptr pb,V Ys 12,V O dY,sv,lv] w (Nh w0 w pb E (aX E G ag stack 12 σ) 12)/\
  Yy prog 192 #[ptr pb,V Ys 13,V O dY,sv,lv] w (Nh w0 w pb E (aX E G ag stack 13 σ) 13):=by
 have hM:aX E G ag stack 12 σ=({n:=0,ag:=[((bf E ag σ).1.1:Int)],value:=(bf E ag σ).1.2.length,take:=(bf E ag σ).1.2,put:=(bf E ag σ).1.2,ok:=Yk},(bf E ag σ).2):=by simp[aX]
 have x:aX E G ag stack 13 σ=({n:=0,ag:=[((bf E ag σ).1.1:Int)],value:=(bf E ag σ).1.2.length,take:=(bf E ag σ).1.2++[127],put:=(bf E ag σ).1.2,ok:=Yk},(bf E ag σ).2):=rfl;refine⟨?_,?_⟩;all_goals
  first |rw[hM]|rw[x]
  clear hM x;have a:=Z h;have y:=hst.lt;clear h;change Hid _ at hst k0;have hu:=λ(W:Yw) (b:dR W pb E σ) (k:Kp _ w W)=>nh b a.lab (k0.trans k) a.Uv
  have k5:=qm (E:=E) (σ:=σ) a.rp;generalize(bf E ag σ).1.1=ln at *;generalize(bf E ag σ).1.2=c at *;generalize(bf E ag σ).2=k6 at *;obtain⟨i1,z,A,B,C⟩:=mZ;change Hid _ at hu;go_enter func192,ntmps192;go_wp2_with fail;refine(hu _ (hst.no (by exact(kZ w _ _ _).2)) (by exact(kZ w _ _ _).2.any)).mono ?_;rintro e g⟨k7,rfl,f,i,k4,k1⟩;obtain⟨q,r,rfl,k8⟩:=f.aJ;have D:=Z (Kp.trans (kZ w _ _ _).2.any k1);have F:=Z (k1.az (kZ w _ _ _).1.1 (show ¬one pb w.heap.size by unfold one;omega));have t:=Z (k1.az (kZ w _ _ _).1.2.1 (show ¬one pb (w.heap.size+1)by unfold one;omega));obtain⟨h2,h3⟩:=ae F;obtain⟨h4,h5⟩:=ae t;have k9:w.heap.size+1<g.heap.size:=au t;have w1:w.heap.size<g.heap.size:=Y
  replace i:=Z i;replace f:=Z f;change Hid _ at k4;go_wp2_with(at_builtin;refine b7 _ U _ _ 25 U (g.heap.size+1) 5 i1 _ 1 1 underlying25 z A B C U Vb _ _ _ U (World.ownsRow_nil _ _ _ _) _ c.length (cw c) U ?c2 (bV _) ?c3 ?c4 ?c5 ?_);case c2=>exact f.one i (k0.trans ((D.cq Y _ _).alloc _))
  case c3=>unfold maxLen;omega
  case c4=>omega
  case c5=>simp
  intro v5 I d J;have K:Kp no _ I:=(Kp.refl no _).bS J (λk p=>by cases p);have L:=Z (K.az (ah (heap_setCell t _)) id);have N:=Z (K.az (ah (aB Y _ F)) id);have u:=Z (K.az (k:=g.heap.size) (bC _ (by simp[World.setCell])) id);have P:=Z ((k4.keep (((Kp.refl _ g).bE U 2 _).alloc _) (λk p=>Y)).no K);have R:=Z (((D.cq Y 2 _).alloc _).then K);have w2:g.heap.size<I.heap.size:=au u;obtain⟨S,T,rfl⟩:=aA d;obtain⟨W,h6⟩:=ae N;obtain⟨h7,h8⟩:=ae L;clear J h2 h4 h3 h5;replace d:=Z d;first
  |go_wp2
   refine bodyPost_ret (v:= Yu #[gq 12 0 (Q (M ⟨g.heap.size,0,H⟩) 1 1) aV aV c.length,Q S c.length T,Q q c.length r,Yt Yk]) (by simp[results,results192,go_sem,W]) U ?_;have s:=T4 I (w.heap.size+1) 5 w.heap.size (V O c.length) (V Ys 12) (V Yr 0) (Q (M ⟨g.heap.size,0,H⟩) 1 1) aV aV (V O c.length);have j:Kp _ w _:=R.comp s bW (λk p h=>by unfold hO at h;omega);have l:=s.own d (λb m h=>by have:=aK d b m;unfold hO at h;omega);refine⟨⟨Q _ 1 1,Q S c.length T,Q q c.length r,U,⟨λb m=>by simp only[Value.ownBlock,Vu]at m;omega,eS.az (s.az u (by unfold hO;omega)),λb m=>by simp only[Value.ownBlock,Vu]at m;omega⟩,Ca y l ?_ Y,mf i f (k0.trans j)⟩,P.keep s (λk p=>by unfold hO;omega),j⟩;have:=aw.own l;simpa[aq]using this
  |go_wp2_with(at_builtin;refine b7 _ U _ _ 25 U _ 5 i1 _ 1 1 underlying25 z A B C U Vb _ _ _ U (d.alloc _) _ 1 [V Ys 127] U (aw.new _ _ _) (eP U) ?c3 ?c4 ?c5 ?_)
   case c3=>unfold maxLen;omega
   case c4=>omega
   case c5=>simp;omega
   intro v7 w7 o X;obtain⟨h0,h1,rfl⟩:=aA o;have kw:Kp (λk=>g.heap.size+1<=k) I w7:=((Kp.refl _ I).alloc _).bS X (λk p=> Yo (aK d k p));obtain⟨h9,w3⟩:=ae (kw.az N Y);obtain⟨w4,w5⟩:=ae (kw.az L Y);have k2:=Z (P.keep kw (λk p=>Y));have k3:=Z (R.comp kw bW (λk p h=>Y));clear X W h7 h6 h8;replace o:=Z o;go_wp2;refine bodyPost_ret (v:= Yu #[gq 13 0 (Q (M ⟨g.heap.size,0,H⟩) 1 1) aV aV c.length,Q h0 (c.length+1) h1,Q q c.length r,Yt Yk]) (by simp[results,results192,go_sem,h9]) U ?_;have s:=T4 w7 (w.heap.size+1) 5 w.heap.size (V O c.length) (V Ys 13) (V Yr 0) (Q (M ⟨g.heap.size,0,H⟩) 1 1) aV aV (V O c.length);have j:Kp _ w _:=k3.comp s bW (λk p h=>by unfold hO at h;omega);have l:=s.own o (λb m h=>by have:=aK o b m;unfold hO at h;omega);refine⟨⟨Q _ 1 1,Q h0 _ h1,Q q c.length r,U,⟨λb m=>by simp only[Value.ownBlock,Vu]at m;omega,eS.az (s.az (kw.az u Y) (by unfold hO;omega)),λb m=>by simp only[Value.ownBlock,Vu]at m;omega⟩,Ca y l ?_ Y,mf i f (k0.trans j)⟩,k2.keep s (λk p=>by unfold hO;omega),j⟩;have:=aw.own l;simpa[aq]using this
def Ni:
  Yy prog 192 #[ptr pb,V Ys 14,V O dY,sv,lv] w (Nh w0 w pb E (aX E G ag stack 14 σ) 14):=by
 have C:aX E G ag stack 14 σ=er E ag σ:=rfl;rw[C];clear C;have a:=Z h;have J:=hst.lt;clear h;change Hid _ at hst k0;have s:=Z (kZ w (Yl #[V Ys 0,V Yr 0,aV,aV,aV,V O 0] 309) (Yl #[V Ys 14,V Yr 0,aV,aV,aV,V O 0] 309) (Yl #[V Ys 127] 5));have D:=λ(W:Yw) (b:dR W pb E σ) (k:Kp _ w W)=>ur b a.lab (k0.trans k) a.Uv a.rp
 generalize(er E ag σ)=R at *;change Hid _ at D;go_enter func192,ntmps192;go_wp2_with fail;refine(D _ (hst.no (by exact s.2)) (by exact s.2.any)).mono ?_;rintro e K⟨⟨L,X,pv,rfl,⟨g,c,i⟩,⟨j,d,l⟩,⟨m,f,n⟩⟩,F,I⟩;obtain⟨o,p,rfl,_⟩:=c.aJ;obtain⟨t,u,rfl,_⟩:=d.aJ;obtain⟨x,y,rfl,_⟩:=f.aJ;have N:Hid (xx _ _ _ _ _):=Z (And.intro g (And.intro c i));have P:Hid (ra _ _ _ _ _ _):=Z (And.intro j (And.intro d l));have S:Hid (ra _ _ _ _ _ _):=Z (And.intro m (And.intro f n));have z:=Z (I.az s.1.1 (show ¬one pb w.heap.size by unfold one;omega));obtain⟨A,T⟩:=ae z;clear g c i j d l m f n;change Hid _ at F;go_wp2;refine bodyPost_ret (v:= Yu #[gq 14 R.1.n (Q o R.1.ag.length p) aV aV R.1.value,Q t R.1.take.length u,Q x R.1.put.length y,Yt R.1.ok]) (by simp[results,results192,go_sem,A]) U ?_;have q:=DI K (w.heap.size+1) w.heap.size (V Ys 14) (V Yr R.1.n) (Q o R.1.ag.length p) aV aV (V O R.1.value);have B:Kp _ w _:=(s.2.any.trans I).comp q bW (λk W h=>by unfold hO at h;omega);exact⟨⟨_,_,_,U,N.on q Vd (λb r=>by unfold hO at r;simp;omega),P.on k0 q Vd (λb r=>by unfold hO at r;simp;omega),S.on k0 q Vd (λb r=>by unfold hO at r;simp;omega)⟩,F.keep q (λk W=>by unfold hO;omega),B⟩
def Nj:
  Yy prog 192 #[ptr pb,V Ys 15,V O dY,sv,lv] w (Nh w0 w pb E (aX E G ag stack 15 σ) 15):=by
 have t:aX E G ag stack 15 σ=({n:=0,ag:=[ag.length-1],value:=(ag.getD 0 []).length,take:=ag.getD 0 [],put:=ag.getD 0 [],ok:=Yk},σ):=rfl;rw[t];clear t;have y:=hst.lt;change Hid _ at h hst k0;have N:=Z (kZ w (Yl #[V Ys 0,V Yr 0,aV,aV,aV,V O 0] 309) (Yl #[V Ys 15,V Yr 0,aV,aV,aV,V O 0] 309) (Yl #[V Ys 127] 5));obtain⟨z,i,j⟩:=h.lab.row;have f:ag[0]?=M (ag.getD 0 []):=by simp[Vj h.aaV]
 obtain⟨A,k,c,d⟩:=j 0 _ f;obtain⟨a,o,B,rfl,C,g⟩:=i.get k;have D:=jJ g;have q:=k0.cell g (λe=>h.lab.JQ a U e);have l:a<w.heap.size:=cj k0.size;simp only[VU]at q;obtain⟨e,m,rfl,_⟩:=c.aJ;have F:=h.aaV;have I:=h.Uv;have J:(ag.getD 0 []).length<=1000:=h.rp _ (Vw f);generalize ag.getD 0 []=r at *;clear i j f k g;replace d:=Z d;replace c:=Z c;have K:=λb p s o=>nU l b p s o
 have L:=λb p s a3 o=>J1 l b p s a3 o
 go_enter func192,ntmps192;go_wp2;go_region;go_wp2;refine bodyPost_ret (v:= Yu #[gq 15 0 (Q (M ⟨w.heap.size+1+1+1,0,H⟩) 1 1) aV aV r.length,Q e r.length m,Q e r.length m,Yt Yk]) (by simp[results,results192,go_sem]) U ?_;have p:∀b s u x,Kp no w ((((w.alloc b).alloc s).alloc u).alloc x).drew:=λb s u x=>(((((Kp.refl no w).alloc _).alloc _).alloc _).alloc _).drew
 exact⟨⟨_,_,_,U,⟨λb s=>by simp only[Value.ownBlock,Vu]at s;omega,eS.az (bC _ Vc),λb s=>by simp only[Value.ownBlock,Vu]at s;omega⟩,mf d c (k0.trans (p _ _ _ _).any),mf d c (k0.trans (p _ _ _ _).any)⟩,hst.no (p _ _ _ _),(p _ _ _ _).any⟩
def Nk:
  Yy prog 192 #[ptr pb,V Ys 16,V O dY,sv,lv] w (Nh w0 w pb E (aX E G ag stack 16 σ) 16):=by
 have d:aX E G ag stack 16 σ=(if bn (uM E _ σ).2 then ({n:=0,ag:=[],value:=0,take:=[],put:=[],ok:=Yj},(uM E _ σ).2)else
  ({n:=(uM E _ σ).1,ag:=[],value:=0,take:=(G.funcs.getD (uM E _ σ).1 _).1,put:=(G.funcs.getD (uM E _ σ).1 _).2,ok:=Yk},(uM E _ σ).2)):=rfl
 generalize aX E G ag stack 16 σ=R at *;have c:=Z h;have L:=hst.lt;clear h;change Hid _ at hst k0;have F:=Z (kZ w (Yl #[V Ys 0,V Yr 0,aV,aV,aV,V O 0] 309) (Yl #[V Ys 16,V Yr 0,aV,aV,aV,V O 0] 309) (Yl #[V Ys 127] 5));obtain⟨i,k5,pl,hi,I,-,-⟩:=hst.dT;obtain⟨hc,-⟩:=ae I;have s:=uq E (G.funcs.length-1) σ;have hu:=λ(W:Yw) (a:dR W pb E σ)=>kH a (G.funcs.length-1)
 have hL:=c.env.B9;generalize(uM E _ σ).1=n at *;generalize(uM E _ σ).2=N at *;have P:=Z d;obtain⟨mb,tv,fv,gv,k6,S,t,u,T,-⟩:=c.env.mod;have j:=k0.az u t;have W:=au j;obtain⟨k7,f,x⟩:=T.row;obtain⟨ad,k8,rfl,k9⟩:=f.aJ;obtain⟨X,-⟩:=ae j;rw[S]at hc;have h0:=Z T.JQ;clear I d T u;change Hid _ at x j;replace f:=Z f;change Hid _ at hu s S;have h1:=λp a b o=>nU L p a b o
 have h2:=λp a b o=>nU W p a b o
 go_enter func192,ntmps192;go_wp2_with fail;refine(hu _ (hst.no (by exact F.2))).bw ?_;rintro w1⟨r,k1⟩;have h3:=Z (k1.az F.1.1 (show ¬one pb w.heap.size by unfold one;omega));have h4:=Z (k1.az F.1.2.1 (show ¬one pb (w.heap.size+1)by unfold one;omega));obtain⟨y,w2⟩:=ae h3;obtain⟨w3,w4⟩:=ae h4;obtain⟨i1,w5,w6,w7,z,-,-⟩:=r.dT;obtain⟨h5,-⟩:=ae z;rw[S.out]at h5;have l:Kp _ w w1:=F.2.any.trans k1;obtain⟨w8,-⟩:=ae (l.az j t);clear z hc h1 h2 X;change Hid _ at r;have d:=P.out;by_cases m:bn N=Yk
 .rw[Vi m]at d;clear P;change Hid _ at d;go_wp2_with fail;refine(bz r).cJ ?_;go_wp2;refine bodyPost_ret (v:= Yu #[gq 16 0 aV aV aV 0,aV,aV,Yt Yj]) (by simp[results,results192,go_sem,y]) U ?_;have A:=DI w1 (w.heap.size+1) w.heap.size (V Ys 16) (V Yr 0) aV aV aV (V O 0);rw[d.out];exact⟨⟨aV,aV,aV,U,jo _ _ _,dU _ _ _ _,dU _ _ _ _⟩,r.keep A (λk hk=>by unfold hO;omega),l.comp A bW (λk hk h=>by unfold hO at h;omega)⟩
 .rw[Va m]at d;have B:=Z d;clear d P;simp only[VG]at m;have hn:=s m;have h6:n<G.funcs.length:=Y
  have C:G.funcs[n]?=M (G.funcs.getD n ([],[])):=by simp[Vj h6]
  obtain⟨pv,rv,c1,c2,J,s1,K,s2⟩:=x n _ C;obtain⟨p,o0,w9,h7,_,D⟩:=f.get c1;cases h7;have e0:p<w0.heap.size:=jJ D;have q:=f.kp (k0.trans l) (λb I e=>h0 b I e);obtain⟨a,o,e1,hv,_,e2⟩:=q.get c1;obtain⟨a',o',e3,e,_,h8⟩:=q.get c2;cases hv;cases e;rw[<-VR]at h8;obtain⟨h9,k2,rfl,_⟩:=J.aJ;obtain⟨k3,k4,rfl,_⟩:=K.aJ;have d:=B.out;generalize G.funcs.getD n _=g at *;have e4:=k0.size;have e5:p≠w.heap.size:=Y
  have e6:p≠w.heap.size+1:=Y
  have e7:mb≠w.heap.size:=Y
  have e8:mb≠w.heap.size+1:=Y
  have e9:pb≠w.heap.size:=Y
  have s0:pb≠w.heap.size+1:=Y
  clear B c1 c2 C q D;replace s2:=Z s2;replace s1:=Z s1;replace K:=Z K;replace J:=Z J;change Hid _ at d;go_wp2_with fail;refine(bz r).cJ ?_;go_wp2;go_region;go_wp2;refine bodyPost_ret (v:= Yu #[gq 16 n aV aV aV 0,Q h9 g.1.length k2,Q k3 g.2.length k4,Yt Yk]) (by simp[results,results192,go_sem,y]) U ?_;have A:=(Cb w1 (w.heap.size+1) w.heap.size (V Yr n) (V Ys 16) (V Yr n) aV aV aV (V O 0)).drew;have b:Kp _ w _:=l.comp A bW (λk hk h=>by unfold hO at h;omega);rw[d.out];exact⟨⟨aV,_,_,U,jo _ _ _,mf s1 J (k0.trans b),mf s2 K (k0.trans b)⟩,r.keep A (λk hk=>by unfold hO;omega),b⟩
def Nl:
  Yy prog 192 #[ptr pb,V Ys 26,V O dY,sv,lv] w (Nh w0 w pb E (aX E G ag stack 26 σ) 26):=by
 have f:aX E G ag stack 26 σ=(if stack=[]then ({n:=0,ag:=[],value:=0,take:=[],put:=[],ok:=Yj},σ)else ({n:=0,ag:=[],value:=0,take:=[stack.getD _ 0],put:=[],ok:=Yk},σ)):=rfl;generalize aX E G ag stack 26 σ=R at *;have q:=hst.lt;change Hid _ at h hst k0;have z:=Z (kZ w (Yl #[V Ys 0,V Yr 0,aV,aV,aV,V O 0] 309) (Yl #[V Ys 26,V Yr 0,aV,aV,aV,V O 0] 309) (Yl #[V Ys 127] 5));have c:=h.QY;have r:=h.Rk;have k:∀b g i,Kp no w (((w.alloc b).alloc g).alloc i):=λb g i=>(((Kp.refl no w).alloc _).alloc _).alloc _
 by_cases j:stack=[]
 .rw[Vi j]at f;obtain⟨e,d,a,_⟩:=c.aJ;rw[j]at a;simp only[Wp]at a;subst a;clear c;change Hid _ at f;go_enter func192,ntmps192;go_wp2;refine bodyPost_ret (v:= Yu #[gq 26 0 aV aV aV 0,aV,aV,Yt Yj]) (by simp[results,results192,go_sem]) U ?_;rw[f.out];exact⟨⟨aV,aV,aV,U,jo _ _ _,dU _ _ _ _,dU _ _ _ _⟩,hst.no (k _ _ _),(k _ _ _).any⟩
 .rw[Va j]at f;have s:=Z f;rcases c.cases with⟨-,l⟩|⟨a,o,d,rfl,t,-⟩
  .exact absurd l j
  .have u:0<stack.length:=Vs.2 j;have A:((stack.length:Int)==0)=false:=Vd
   have m:=Z c;have x:d≠stack.length-1:=Y
   have y:stack.length - (stack.length-1)=1:=Y
   have p:=Z (m.at (stack.length-1) Y);clear f c j;go_enter func192,ntmps192;go_wp2;go_region;go_wp2;refine bodyPost_ret (v:= Yu #[gq 26 0 aV aV aV 0,Q (M ⟨a,o+(stack.length-1),H⟩) 1 (d - (stack.length-1)),aV,Yt Yk]) (by simp[results,results192,go_sem]) U ?_;have e:∀b g i,Kp no w (((w.alloc b).alloc g).alloc i).drew:=λb g i=>(k b g i).drew
   rw[s.out];exact⟨⟨aV,_,aV,U,jo _ _ _,mf (λb g=>h.aaW b g) p (k0.trans (e _ _ _).any),dU _ _ _ _⟩,hst.no (e _ _ _),(e _ _ _).any⟩
def Nn:
  Yy prog 192 #[ptr pb,V Ys 27,V O dY,sv,lv] w (Nh w0 w pb E (aX E G ag stack 27 σ) 27):=by
 have d:aX E G ag stack 27 σ=(if stack.length<3 then ({n:=0,ag:=[],value:=0,take:=[],put:=[],ok:=Yj},σ)else ({n:=0,ag:=[],value:=0,take:=[stack.getD _ 0,stack.getD _ 0,127],put:=[stack.getD _ 0],ok:=Yk},σ)):=rfl;generalize aX E G ag stack 27 σ=R at *;have j:=hst.lt;change Hid _ at h hst k0;have C:=Z (kZ w (Yl #[V Ys 0,V Yr 0,aV,aV,aV,V O 0] 309) (Yl #[V Ys 27,V Yr 0,aV,aV,aV,V O 0] 309) (Yl #[V Ys 127] 5));have b:=h.QY;have x:=h.Rk;have k:∀f g i,Kp no w (((w.alloc f).alloc g).alloc i):=λf g i=>(((Kp.refl no w).alloc _).alloc _).alloc _
 by_cases p:stack.length<3
 .rw[Vi p]at d;obtain⟨a,l,rfl,_⟩:=b.aJ;clear b;change Hid _ at d;go_enter func192,ntmps192;go_wp2;refine bodyPost_ret (v:= Yu #[gq 27 0 aV aV aV 0,aV,aV,Yt Yj]) (by simp[results,results192,go_sem]) U ?_;rw[d.out];exact⟨⟨aV,aV,aV,U,jo _ _ _,dU _ _ _ _,dU _ _ _ _⟩,hst.no (k _ _ _),(k _ _ _).any⟩
 .rw[Va p]at d;have q:=Z d;obtain⟨a,o,l,rfl,y,c⟩:=b.get (show stack.length-2<stack.length by omega);have z:=jJ c;have A:=k0.cell c (λe=>h.aaW a U e);have m:a<w.heap.size:=cj k0.size;have e:=q.out;generalize stack.getD _ 0=t at *;have B:=λr s u o=>nU m r s u o
  clear d b q c;change Hid _ at e;go_enter func192,ntmps192;go_wp2;refine bodyPost_ret (v:= Yu #[gq 27 0 aV aV aV 0,Q (M ⟨w.heap.size+1+1+1,0,H⟩) 3 3,Q (M ⟨w.heap.size+1+1+1+1,0,H⟩) 1 1,Yt Yk]) (by simp[results,results192,go_sem]) U ?_;have r:∀f g i s u,Kp no w (((((w.alloc f).alloc g).alloc i).alloc s).alloc u):=λf g i s u=>((k f g i).alloc _).alloc _
  rw[e.out];exact⟨⟨aV,_,_,U,jo _ _ _,jZ j (aq.az (ah (bC _ Vc))) Y,jZ j (aq.az (bC _ Vc)) Y⟩,hst.no (r _ _ _ _ _),(r _ _ _ _ _).any⟩
theorem DJ(d:Nat)(c:eL d):
  Yy prog 192 #[ptr pb,V Ys d,V O dY,sv,lv] w (Nh w0 w pb E (aX E G ag stack d σ) d):=by
 have F:aX E G ag stack d σ=iX E G d σ:=by
  unfold eL at c;unfold aX;rw[Va Y,Va Y,Va Y,Va Y,Va Y,Va Y,Va Y,Va Y]
 rw[F];clear F;have e0:((d:Int)==0)=false:=Vt.2 (by unfold eL at c;omega);have e1:((d:Int)==1)=false:=Vt.2 (by unfold eL at c;omega);have e2:((d:Int)==2)=false:=Vt.2 (by unfold eL at c;omega);have e3:((d:Int)==3)=false:=Vt.2 (by unfold eL at c;omega);have e4:((d:Int)==4)=false:=Vt.2 (by unfold eL at c;omega);have L:((d:Int)==12)=false:=Vt.2 (by unfold eL at c;omega);have N:((d:Int)==13)=false:=Vt.2 (by unfold eL at c;omega);have P:((d:Int)==14)=false:=Vt.2 (by unfold eL at c;omega);have S:((d:Int)==15)=false:=Vt.2 (by unfold eL at c;omega);have T:((d:Int)==16)=false:=Vt.2 (by unfold eL at c;omega);have X:((d:Int)==26)=false:=Vt.2 (by unfold eL at c;omega);have h0:((d:Int)==27)=false:=Vt.2 (by unfold eL at c;omega);have a:=Z h;have h1:=hst.lt;clear h;change Hid _ at hst k0;have u:=Z (kZ w (Yl #[V Ys 0,V Yr 0,aV,aV,aV,V O 0] 309) (Yl #[V Ys d,V Yr 0,aV,aV,aV,V O 0] 309) (Yl #[V Ys 127] 5));have I:=λ(W:Yw) (b:dR W pb E σ) (k:Kp _ w W)=>JZ b a.env (k0.trans k) dY d c
 generalize(iX E G d σ)=R at *;change Hid _ at I;go_enter func192,ntmps192;go_wp2_with fail;refine(I _ (hst.no (by exact u.2)) (by exact u.2.any)).mono ?_;rintro e W⟨⟨h2,tv,pv,rfl,⟨j,f,l⟩,⟨m,g,n⟩,⟨o,i,p⟩⟩,J,K⟩;obtain⟨q,r,rfl,_⟩:=f.aJ;obtain⟨x,y,rfl,_⟩:=g.aJ;obtain⟨z,A,rfl,_⟩:=i.aJ;have HL:Hid (xx _ _ _ _ _):=Z (And.intro j (And.intro f l));have HT:Hid (ra _ _ _ _ _ _):=Z (And.intro m (And.intro g n));have HP:Hid (ra _ _ _ _ _ _):=Z (And.intro o (And.intro i p));have B:=Z (K.az u.1.1 (show ¬one pb w.heap.size by unfold one;omega));obtain⟨C,h3⟩:=ae B;clear j f l m g n o i p;change Hid _ at J;go_wp2;refine bodyPost_ret (v:= Yu #[gq d R.1.n (Q q R.1.ag.length r) aV aV R.1.value,Q x R.1.take.length y,Q z R.1.put.length A,Yt R.1.ok]) (by simp[results,results192,go_sem,C]) U ?_;have s:=DI W (w.heap.size+1) w.heap.size (V Ys d) (V Yr R.1.n) (Q q R.1.ag.length r) aV aV (V O R.1.value);have D:Kp _ w _:=(u.2.any.trans K).comp s bW (λk hk h=>by unfold hO at h;omega);exact⟨⟨_,_,_,U,HL.on s Vd (λb t=>by unfold hO at t;simp;omega),HT.on k0 s Vd (λb t=>by unfold hO at t;simp;omega),HP.on k0 s Vd (λb t=>by unfold hO at t;simp;omega)⟩,J.keep s (λk hk=>by unfold hO;omega),D⟩
def wU(op:Nat):Prop:=op<=4\/(12<=op/\op<=16)\/op=26\/op=27\/eL op
def J2(a:Nat)(b:wU a):
  Yy prog 192 #[ptr pb,V Ys a,V O dY,sv,lv] w (Nh w0 w pb E (aX E G ag stack a σ) a):=by
 by_cases d:eL a
 .grind[DJ]
 .have c:(a=0\/a=1)\/(a=2\/a=3\/a=4)\/a=12\/a=13\/a=14\/a=15\/a=16\/a=26\/a=27:=by
   unfold wU at b;grind
  rcases c with e|e|rfl |rfl |rfl |rfl |rfl |rfl |rfl<;>simp_all[Rm,Rn,Ro,Ni,Nj,Nk,Nl,Nn]
end
end
end Rf
end Go.Proofs.YtdeplgkhmebalaaGreatDoor
