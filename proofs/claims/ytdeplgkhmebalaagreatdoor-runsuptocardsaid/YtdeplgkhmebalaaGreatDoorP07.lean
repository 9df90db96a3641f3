/- The document's run: shifts. -/
import Derived.Test.YtdeplgkhmebalaaGreatDoorP06
import Derived.Test.YtdeplgkhmebalaaGreatDoorP04
set_option linter.all false
set_option maxHeartbeats 4000000
set_option maxRecDepth 100000
variable{X:Go.World}{k b a j N d:Nat}{u z:Go.Value}{y:Int}{D l:List UInt8}{I:List Int}{g:UInt8}{F:List Go.Value}{T:Go.TypeId}
namespace Go.Proofs.YtdeplgkhmebalaaGreatDoor
open Bool renaming false->Yj,true->Yk
open Except renaming error->Ym,ok->Yn
open Go renaming Calls->Yy,Value->Yx,World->Yw
open Go.Ending renaming returned->Yq
open Go.IntKind renaming i64->O,u64->Yr,u8->Ys
open Go.Obj renaming cells->Yl
open Go.Value renaming bool->Yt,int->V,pointer->Yv,slice->Q,tuple->Yu
open Option renaming none->H,some->M
open Or renaming inl->Yo,inr->Yp
open Proofs.Tryz
variable{C J:Bd}{K:Mc}
section
open Go.RowKit
def Bv(wd:Bool)(k a:Nat):Int:=
 match k with
 |10=>eE wd (IntKind.u64.wrap (wrap64 (IntKind.u64.wrap (2*(a:Int)))))
 |11=>(a:Int)/2+(a:Int)/(if wd then 9223372036854775808 else 2147483648)%2*(if wd then 9223372036854775808 else 2147483648)
 |12=>(a:Int)/2
 |13=>IntKind.u64.wrap (eE wd (IntKind.u64.wrap (wrap64 (IntKind.u64.wrap (2*(a:Int)))))+(a:Int)/(if wd then 9223372036854775808 else 2147483648)%2)
 |_=>(a:Int)/2+(a:Int)%2*(if wd then 9223372036854775808 else 2147483648)
def aah:(2:Nat)^(wN Yj-1)=2147483648:=Vb
def aai:(2:Nat)^(wN Yk-1)=9223372036854775808:=Vb
theorem Fy:top Yj=4294967296:=rfl
theorem Un:top Yk=18446744073709551616:=rfl
def acW(b:Bool)(a:Nat):eE b (IntKind.u64.wrap (wrap64 (IntKind.u64.wrap (2*(a:Int)))))=((2*a%top b:Nat):Int):=by
 cases b<;>grind[sQ,lN,Fy,IntKind.wrap_u64,Un]
def vr{P:Prop}(h:P:=by
 cases wd<;>simp only[aah,aai,Vq,VL,VK]<;>omega):P:=h
def Qp(wd:Bool)(k:Nat)(c:a<top wd)(d:10<=k/\k<15):Bv wd k a=(sP wd k a:Nat):=by
 have b:=acW wd a;have f:=xd wd 13 c;rcases(by omega :k=10\/k=11\/k=12\/k=13\/k=14)with rfl |rfl |rfl |rfl |rfl
 .exact b
 .unfold Bv sP;exact vr
 .rfl
 .unfold Bv;simp only;rw[b];have e:((2*a%top wd:Nat):Int)+(a:Int)/(if wd then 9223372036854775808 else 2147483648)%2=((sP wd 13 a:Nat):Int):=by
   unfold sP;exact vr
  grind[xM,pq]
 .unfold Bv sP;exact vr
def Mm(c:Bool)(k:Nat)(z:10<=k/\k<15)(I:Yx)(o:a<top c)(A:b<top c)(B:b%wN c=j)(l:j<wN c)(w:Yw):
  fX 225 #[I,V Ys ((if c then 124 else 106)+k:Nat),V Yr a,V Yr b] w (V Yr (gL c k j a:Nat)):=by
 have n:=Z (λw=>mH ((if c then 124 else 106)+k) (by split <;>omega) w);rw[tT c k Y]at n;have C:=Z (λw=>gC c o w);have D:=Z (λw=>gC c A w);have E:=Z (λx w=>C3 c x w);generalize bF c a=x at *;generalize bF c b=y at *;have G:=Z o;obtain⟨S,hS⟩:∃S:Nat->Nat,∀f,f<top c->Bv c k f=(S f:Nat)/\S f<top c/\ ∀d,gL c k (d+1) f=gL c k d (S f):=⟨sP c k,λf h=>⟨Qp c k h z,xd c k h,λ_=>rfl⟩⟩;obtain⟨F,hF⟩:=bL (gL c k:Nat->Nat->Nat);have m:∀f,F 0 f=f:=λf=>by rw[hF];rfl
 rw[<-hF]at hS⊢;obtain⟨T,p⟩:=bL (top c);rw[<-p]at G hS;have J:T<=18446744073709551616:=by rw[p];exact pq c
 clear hF p;change Hid _ at hS m;have q:(wN c:Int)=64\/(wN c:Int)=32:=by cases c<;>simp[wN]
 have h:Int.tmod (b:Int) (wN c)=(j:Int):=by rw[WC Y,<-B];rfl
 clear o A B q;have K:j<64:=by cases c<;>simp[wN]at l<;>omega
 clear l;cases c;all_goals
  simp only[wN,Vq,VL,VK]at n C D E h⊢;first |(have e:Int.tmod (b:Int) 32=(j:Int):=h)|(have e:Int.tmod (b:Int) 64=(j:Int):=h)
  clear h;rcases(by omega :k=10\/k=11\/k=12\/k=13\/k=14)with rfl |rfl |rfl |rfl |rfl
  all_goals
   simp only[Nat.reduceAdd]at n⊢;clear z;go_enter func225,ntmps225;go_wp2_with fail;refine(n _).mono ?_;rintro e P⟨rfl,rfl⟩;go_wp2_with fail;refine(C _).mono ?_;rintro e R⟨rfl,rfl⟩;go_wp2_with fail;refine(D _).mono ?_;rintro e L⟨rfl,rfl⟩;go_wp2;go_loopw [2,14] (λg i wr=> ∃f d:Nat,d<=64/\f<T/\g= V Yr f/\i= V O d/\Hid (F d f=F j a)/\wr=L) (λ_ i _=>(intOf i).toNat);case atStart=>exact⟨a,j,Y,G,U,U,Z U,U⟩
   case round=>
    obtain⟨f,d,W,r,rfl,rfl,hF,rfl⟩:=hrel;have s:=o8 f 0 Y;have t:=o8 f 31 Y;have u:=o8 f 63 Y;simp only[Int.pow_zero,Int.ediv_one,Xd,Yb,Int.reducePow,Nat.reducePow]at s t u;by_cases v:d=0
    .subst v;go_wp2;go_ret;exact⟨by rw[<-hF.out,m.out];rfl,U⟩
    .obtain⟨g,rfl⟩:∃g,d=g+1:=⟨d-1,Y⟩;obtain⟨e1,e2,e3⟩:=hS f r;have i:=hF.out;rw[e3]at i;have N:=Z e1;clear e1 e3 hF;change Hid _ at i;go_wp2_with fail;try
      refine(E _ _).mono ?_;rintro e X⟨rfl,rfl⟩;go_wp2
     have e1:=N.out;simp only[Bv,Vq,VL,VK]at e1;exact⟨⟨S f,g,Y,e2,Vy (Value.int Yr) e1,U,i,trivial⟩,by simp[intOf]⟩
end
section
open Go.RowKit
open Rf (ptr bh)
section
variable{E:ew}{lo:Nat->Prop}{w w':World}{fb n:Nat}{s:Rs}
def aaj(h:ee E lo w fb s)(b:Bool)(k:Nat)(l:3<=k/\k<=6)(f:a<top b):
  Yy prog 225 #[ptr E.rb,V Ys ((if b then 124 else 106)+k:Nat),V Yr a,V Yr (0:Nat)] w λr w'=>(∃v,r= Yq (V Yr v))/\ee E lo w' fb {s with t:=2}/\Kp (iM lo) w w':=by
 have c:=λw=>mH ((if b then 124 else 106)+k) (by split <;>omega) w
 rw[tT b k Y]at c;have d:=λw=>gC b f w
 have e:=λw=>gC b (a:=0) (by cases b<;>decide) w
 obtain⟨g,-,i,-⟩:=h.run;obtain⟨m,o⟩:=ae g;have j:=i w 2 iR;generalize bF b a=x at *;generalize bF b ((0:Nat):Int)=y at *;cases b;all_goals
  simp only[Vq,VL,VK,wN]at c d e⊢;rcases(by omega :k=3\/k=4\/k=5\/k=6)with rfl |rfl |rfl |rfl
  all_goals
   simp only[Nat.reduceAdd]at c⊢;go_enter func225,ntmps225;go_wp2_with fail;refine(c _).cJ ?_;go_wp2_with fail;refine(d _).cJ ?_;go_wp2_with fail;refine(e _).cJ ?_;go_wp2;go_ret;exact⟨⟨_,U⟩,j⟩
def Mo(b:Bool)(c:a<top b):((a:Int)=mN b)↔bF b a=(if b then -9223372036854775808 else -2147483648):=by
 rw[kJ b c];cases b
 .have h:=c;unfold xa mN top;grind
 .have h:=c;unfold xa mN top;grind
def Tg(a:Bool)(c:b<top a)(d:b≠0):bF a b≠0:=by
 grind[kJ,xa]
theorem Th(h:ee E lo w fb s)(d:Bool)(k:Nat)(K:3<=k/\k<=6)(z:a<top d)(A:b<top d)(C:b≠0){v:Int}{t:Nat}(l:bU d k a b=M (v,t))(p:s.t=0):
  Yy prog 225 #[ptr E.rb,V Ys ((if d then 124 else 106)+k:Nat),V Yr a,V Yr b] w λr w'=>(∃c,r= Yq (V Yr c)/\(t=0->c=v))/\ee E lo w' fb {s with t:=t}/\Kp (iM lo) w w':=by
 have g:=λw=>mH ((if d then 124 else 106)+k) (by split <;>omega) w
 rw[tT d k Y]at g;have i:=λw=>gC d z w
 have j:=λw=>gC d A w
 have q:=λx w=>C3 d x w
 obtain⟨r,-,D,-⟩:=h.run;obtain⟨L,N⟩:=ae r;have F:=D w 3 iR;have m:=show ee E lo w fb {s with t:=0}from p▸h
 have G:=Tg d A C;have B:=Mo d z;have I:=pq d;have u:((b:Nat):Int)≠0:=Y
 have f:(k=3->(bF d a=(if d then -9223372036854775808 else -2147483648)/\bF d b= -1/\t=3)\/(¬(bF d a=(if d then -9223372036854775808 else -2147483648)/\bF d b= -1)/\t=0/\v=eE d (IntKind.u64.wrap (wrap64 ((bF d a).tdiv (bF d b))))))/\(k=4->t=0/\v=IntKind.u64.wrap ((a:Int).tdiv b))/\(k=5->t=0/\v=eE d (IntKind.u64.wrap ((bF d a).tmod (bF d b))))/\(k=6->t=0/\v=(a:Int).tmod b):=by
  refine⟨λe=>?_,λe=>?_,λe=>?_,λe=>?_⟩;all_goals
   subst e;unfold bU at l;simp only[Va u,Va G]at l
  .split at l
   .rename_i c;cases l;exact Yo ⟨B.1 c.1,c.2,U⟩
   .rename_i c;cases l;exact Yp ⟨λe=>c ⟨B.2 e.1,e.2⟩,U,U⟩
  all_goals
   cases l;exact⟨U,U⟩
 generalize bF d a=x at *;generalize bF d b=y at *;cases d;all_goals
  simp only[Vq,VL,VK,wN]at g i j q f⊢;rcases(by omega :k=3\/k=4\/k=5\/k=6)with rfl |rfl |rfl |rfl
  all_goals
   simp only[Nat.reduceAdd,forall_const,reduceCtorEq,Nat.reduceEqDiff,false_implies,true_and,WQ]at g f⊢
  .rcases f with⟨rfl,rfl,rfl⟩|⟨J,rfl,rfl⟩
   .go_enter func225,ntmps225;go_wp2_with fail;refine(g _).cJ ?_;go_wp2_with fail;refine(i _).cJ ?_;go_wp2_with fail;refine(j _).cJ ?_;go_wp2;go_ret;exact⟨⟨_,U,λe=>by cases e⟩,F⟩
   .cases c:(x== -2147483648)<;>cases o:(x== -9223372036854775808)<;>cases e:(y== -1);all_goals first
     |(exfalso;rw[WI]at c o;omega)
     |(exfalso;rw[WI]at c e;omega)
     |(exfalso;rw[WI]at o e;omega)
     |clear J
    all_goals
     go_enter func225,ntmps225;go_wp2_with fail;refine(g _).cJ ?_;go_wp2_with fail;refine(i _).cJ ?_;go_wp2_with fail;refine(j _).cJ ?_;go_wp2_with fail;refine(q _ _).cJ ?_;go_wp2;go_ret;exact⟨⟨_,U,λ_=>rfl⟩,m,iR⟩
  .obtain⟨rfl,rfl⟩:=f;go_enter func225,ntmps225;go_wp2_with fail;refine(g _).cJ ?_;go_wp2_with fail;refine(i _).cJ ?_;go_wp2_with fail;refine(j _).cJ ?_;go_wp2;go_ret;exact⟨⟨_,U,λ_=>by rw[Int.tdiv_eq_ediv_of_nonneg (Ya _)]⟩,m,iR⟩
  .obtain⟨rfl,rfl⟩:=f;cases e:(y== -1);rotate_left
   .have o:y= -1:=by simpa using e
    have e5:∀c,eE c (IntKind.u64.wrap (x.tmod y))=0:=λc=>by rw[o,Int.tmod_neg,Int.tmod_one];cases c<;>rfl
    go_enter func225,ntmps225;go_wp2_with fail;refine(g _).cJ ?_;go_wp2_with fail;refine(i _).cJ ?_;go_wp2_with fail;refine(j _).cJ ?_;go_wp2;go_ret;exact⟨⟨_,U,λ_=>(e5 _).symm⟩,m,iR⟩
   .go_enter func225,ntmps225;go_wp2_with fail;refine(g _).cJ ?_;go_wp2_with fail;refine(i _).cJ ?_;go_wp2_with fail;refine(j _).cJ ?_;go_wp2_with fail;refine(q _ _).cJ ?_;go_wp2;go_ret;exact⟨⟨_,U,λ_=>rfl⟩,m,iR⟩
  .obtain⟨rfl,rfl⟩:=f;go_enter func225,ntmps225;go_wp2_with fail;refine(g _).cJ ?_;go_wp2_with fail;refine(i _).cJ ?_;go_wp2_with fail;refine(j _).cJ ?_;go_wp2;go_ret;exact⟨⟨_,U,λ_=>by rw[WC (Ya _)]⟩,m,iR⟩
end
end
section
open Go.RowKit
def Hh(st:List (Int×Int)):Prop:=st.Pairwise λp q=>p.1<q.1
def uY(p:Int×Int)(l:List (Int×Int))(k:Int):dt (p::l) k=if p.1<k then dt l k+1 else 0:=by
 unfold dt;rw[X1];grind
def A3(p:Int×Int)(l:List (Int×Int))(k:Int):kP (p::l) k=if p.1<k then kP l k else p.1==k:=by
 unfold kP;rw[uY];grind
def jk(p:Int×Int)(l:List (Int×Int))(k:Int):lJ (p::l) k=if p.1<k then lJ l k else if p.1=k then M p.2 else none:=by
 unfold lJ;rw[A3,uY];grind
def uZ(st:List (Int×Int))(k v:Int):List (Int×Int):=if kP st k then st.set (dt st k) (k,v)else st.take (dt st k)++(k,v)::st.drop (dt st k)
def vd(p:Int×Int)(l:List (Int×Int))(k v:Int):uZ (p::l) k v=if p.1<k then p::uZ l k v else if p.1=k then (k,v)::l else (k,v)::p::l:=by
 unfold uZ;rw[A3,uY];grind
def Jw{v:Int}:∀{a:List (Int×Int)} {q:Int×Int},q∈uZ a y v->q=(y,v)\/q∈a
 |[],q,h=>by
  grind[uZ]
 |p::l,q,h=>by
  rw[vd]at h;split at h
  .rcases Wg.1 h with e|e
   .grind
   .exact(Jw e).imp id (WJ _)
  grind
def Fc{v:Int}:∀{a:List (Int×Int)},Hh a->Hh (uZ a y v)
 |[],_=>by grind[uZ,Hh]
 |p::l,h=>by
  have b:=Wl.1 h;rw[vd];split
  .rename_i c;refine Wl.2 ⟨λq a=>?_,Fc b.2⟩;rcases Jw a with e|e<;>grind
  .split
   .rename_i e;exact Wl.2 ⟨λq a=>Ve,b.2⟩
   .refine Wl.2 ⟨λq a=>?_,h⟩;grind
theorem Jx{v k':Int}:∀{a:List (Int×Int)},Hh a->lJ (uZ a y v) k'=if k'=y then M v else lJ a k'
 |[],_=>by
  show lJ [(y,v)] k'=_
  rw[jk];by_cases e:k'=y
  .grind
  .rw[Va e];split
   .rfl
   .rw[Va (λh=>e h.symm)];rfl
 |p::l,h=>by
  have c:=Wl.1 h;rw[vd];split
  .rename_i a;rw[jk,jk,Jx c.2];grind
  .split
   .rename_i a e;rw[jk,jk];grind
   .rename_i a e;rw[jk];show(if y<k' then lJ (p::l) k' else if y=k' then M v else H)=_
    by_cases b:k'=y
    .grind
    .have e2: ¬y=k':=λh=>b h.symm
     simp only[Va b,Va e2];by_cases d:y<k'
     .grind
     .rw[Va d,jk,Va Y,Va Y]
theorem Jy(a:List (Int×Int))(k v:Int):(uZ a k v).length=if (lJ a k).isSome then a.length else a.length+1:=by
 grind[uZ,lJ]
def Jz(a:List (Int×Int))(k:Int):kP a k=(lJ a k).isSome:=by
 grind[lJ]
structure lY(st m:List (Int×Int)):Prop where
 PU:Hh st
 len:st.length=m.length
 get:∀k,lJ st k=look m k
theorem lY.put{a m:List (Int×Int)}(h:lY a m)(k v:Int):lY (uZ a k v) (lX m k v):=by
 refine⟨Fc h.PU,?_,λb=>?_⟩
 .grind[Jy,rW,get,len]
 grind[Jx,Fb,PU,get]
def Fe{a:List (Int×Int)}{v:Int}(h: ¬(kP a y=Yj/\a.length=8)):wQ a y v=uZ a y v:=by
 unfold wQ uZ;grind
end
section
open Go.RowKit
open Rf (ptr bh)
section
variable{E:ew}{lo:Nat->Prop}{w w':World}{fb n:Nat}{s:Rs}{lab bv ev:Value}{va:Int}
def aak(a:Bool)(b:Nat):(Du a b).toNat=b%wN a:=by
 grind[Du,wN]
def Ti(h:ee E lo w fb s)(c:Bool)(k:Nat)(o:k<15)(f:a<top c)(i:b<top c){t:Nat}(j:bU c k a b=M (y,t))(g:s.t=0):
  Yy prog 225 #[ptr E.rb,V Ys ((if c then 124 else 106)+k:Nat),V Yr a,V Yr b] w λr w'=>(∃d,r= Yq (V Yr d)/\(t=0->d=y))/\ee E lo w' fb {s with t:=t}/\Kp (iM lo) w w':=by
 have p:ee E lo w fb {s with t:=0}:=g▸h;rcases(by omega :(k<3\/7<=k/\k<10)\/(3<=k/\k<=6)\/10<=k/\k<15)with d|d|d
 .refine(SK c k d (ptr E.rb) f i w).mono ?_;simp_all[Kp.refl]
 .by_cases e:b=0
  .subst e;have l:t=2:=by
    unfold bU at j;grind
   subst l;refine(aaj h c k d f).mono ?_;simp
  grind[Th]
 .have m:0<wN c:=by cases c<;>decide
  have l:b%wN c<wN c:=Wn _ m;refine(Mm c k d (ptr E.rb) f i U l w).cJ ?_;have q: ¬((b:Int)<0):=Y
  obtain⟨r,u,v,x,z⟩:=UD c f (Xp l);have e:y=(gL c k (b%wN c) a:Nat)/\t=0:=by
   unfold bU at j;rcases(by omega :k=10\/k=11\/k=12\/k=13\/k=14)with rfl |rfl |rfl |rfl |rfl<;>simp_all[aak]
  simp_all[Kp.refl]
def aal(h:ee E lo w fb s)(c:Bool)(k:Nat)(f:k<10)(g:a<top c)(i:b<top c){o:List Int}(e:s.aW=o++[(a:Int),(b:Int)])(d:s.aW.length<=1000000000):
  Yy prog 197 #[ptr E.rb,ptr fb,eW ((if c then 81 else 70)+k) n lab bv ev va] w (ui E lo w fb {s with aW:=o++[truth (eU c k a b)]}):=by
 have j:=h.mW;have z:o.length+2<=1000000000:=by rw[e]at d;simpa using d
 have l:=Z (eC (o:=o++[(a:Int)]) (v:=b) (h.box (bX ((if c then 81 else 70)+k) n lab bv ev va)) (by rw[e];simp) d);have m:=Z (λw=>Fm c k f g i w);clear h e d g i;change Hid _ at j;generalize truth (eU c k a b)=u at *;cases c;all_goals
  simp only[Vq,VL,VK]at l m⊢;rcases(by omega :k=0\/k=1\/k=2\/k=3\/k=4\/k=5\/k=6\/k=7\/k=8\/k=9)with rfl |rfl |rfl |rfl |rfl |rfl |rfl |rfl |rfl |rfl
  all_goals
   clear f;go_enter func197,ntmps197;go_wp2_with fail;refine l.bw ?_;rintro A⟨p,q⟩;go_wp2_with fail;refine(eC (o:=o) (v:=a) p U Vd).bw ?_;rintro B⟨r,t⟩;go_wp2_with fail;refine(m _).cJ ?_;go_wp2_with fail;refine(gQ r _ Vd).bw ?_;rintro C⟨x,y⟩;go_wp2;go_end0;exact⟨U,dP j x ((q.trans t).trans y)⟩
end
end
end Go.Proofs.YtdeplgkhmebalaaGreatDoor
