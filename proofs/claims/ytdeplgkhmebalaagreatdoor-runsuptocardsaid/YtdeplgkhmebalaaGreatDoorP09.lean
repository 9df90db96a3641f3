/- The flat list goes where the document's run goes: all of it. -/
import Derived.Test.YtdeplgkhmebalaaGreatDoorP08
set_option linter.all false
set_option maxHeartbeats 4000000
set_option maxRecDepth 100000
variable{i a t o:Nat}{v u z:Go.Value}{y:Int}{D l:List UInt8}{I:List Int}{g:UInt8}{F:List Go.Value}{R:Nat->Prop}
namespace Go.Proofs.YtdeplgkhmebalaaGreatDoor
open Bool renaming false->Yj,true->Yk
open Except renaming error->Ym,ok->Yn
open Go renaming Calls->Yy,Value->Yx,World->Yw
open Go.Ending renaming returned->Yq
open Go.IntKind renaming i64->O,u64->Yr,u8->Ys
open Go.Obj renaming cells->Yl
open Go.Value renaming bool->Yt,int->V,pointer->Yv,slice->Q,tuple->Yu
open Option renaming none->H,some->M
open Or renaming inl->Yo,inr->Yp
open Proofs.Tryz
variable{E e:dH}{G:Mc}{A:IntKind}{C:Rf.PE}
section
open Go.RowKit
structure Fw(f:dH)(B:List (List Nd))(gs:List (UInt8×UInt8×Nat)):Prop where
 fn:∀n,n<f.funcs.length-> ∃more e,(f.funcs.getD n du).aZ=(f.funcs.getD n du).typ.1.length+more.length/\(f.funcs.getD n du).aZ<=32/\(f.funcs.getD n du).typ.2.length<=1/\e<f.ao.length/\(f.ao.getD e bD).op=11/\
  Lay f.ao ⟨(f.funcs.getD n du).typ.1++more,f.funcs.map (·.typ),gs⟩ [⟨e,[],(f.funcs.getD n du).typ.2⟩] (f.funcs.getD n du).typ.2 [] [] Yj (f.funcs.getD n du).entry (B.getD n []) e
 ao:f.ao.length<=40000
def Da{C:List dQ}{G:Rf.ez}{L:List uL}{base stack:List UInt8}{b:Bool}{l:List Nd}(h:Lay C G L D base stack b i l a):i<=a:=by
 induction h<;>omega
def Qc{G:Rf.ez}{b:List (List UInt8)}{y:Rf.IR}(c:Rf.aX C G b D (UInt8.toNat 16) (Yn i)=(y,Yn a))(d:y.ok=Yk):y.n<G.funcs.length/\y.take=(G.funcs.getD y.n ([],[])).1/\y.put=(G.funcs.getD y.n ([],[])).2:=by
 have e:Rf.aX C G b D (UInt8.toNat 16) (Yn i)=(if Rf.bn (Rf.uM C ((G.funcs.length:Int)-1) (Yn i)).2 then (⟨0,[],0,[],[],Yj⟩,(Rf.uM C ((G.funcs.length:Int)-1) (Yn i)).2)else
  (⟨(Rf.uM C ((G.funcs.length:Int)-1) (Yn i)).1,[],0,(G.funcs.getD (Rf.uM C ((G.funcs.length:Int)-1) (Yn i)).1 ([],[])).1,(G.funcs.getD (Rf.uM C ((G.funcs.length:Int)-1) (Yn i)).1 ([],[])).2,Yk⟩,(Rf.uM C ((G.funcs.length:Int)-1) (Yn i)).2)):=rfl
 rw[e]at c;split at c
 .grind
 .rename_i g;have f:=Rf.uq C ((G.funcs.length:Int)-1) (Yn i) Ve;grind
section
variable{f:dH}{B:List (List Nd)}{gl:List (UInt8×Bool)}{lo:List UInt8}{L:List uL}{low:List Int}{cs:List (Nat×Nat×Nat)}{r b p q d:Nat}{m:Mc}{st:List UInt8}
def yx(c:Ft lo st m)(hS:oH gl m):∃g t a e,go f B g d H [] 0 m=M (t,a,e)/\rk f gl lo L low cs r b q m st q t a e:=
 ⟨1,0,-1,m,by rw[go],cQ,Yp ⟨U,hS,Yo ⟨U,c,(jy.refl _ _).le Y⟩⟩⟩
theorem HH{G:Q5}{x:Nd}(h:x.op≠2/\x.op≠3/\x.op≠4/\x.op≠12/\x.op≠13/\x.op≠14/\x.op≠15/\x.op≠16)(a:x.op.toNat<=1\/17<=x.op.toNat)(c:qc x.op x.n m=Yk):fU f B G d x m=(bZ f m ⟨x.op,x.n,0,0,0⟩).map (λr=>(r.1,-1,r.2)):=by
 simp_all[fU]
theorem Qd(c:g≠5)(a:g≠11):ep g=true:=by
 grind[ep]
def vp{a:uL}{b2:List UInt8}{x:dQ}(g:L[i]?=M a)(c:l=a.bt++b2)(e:Ft lo (l++(D++a.vt)) m)(h:x.goal=a.goal/\x.aH=a.bt.length/\x.keep=a.vt.length):
  gy (m.bB low cs r p) x=M (0,(jC m a.bt.length a.vt.length).bB low cs r a.goal)/\Ft lo (a.bt++(b2++D)++a.vt) m:=by
 grind[qP]
end
def Qe(f:dH)(B:List (List Nd))(gs:List (UInt8×UInt8×Nat))(N:Nat):Prop:= ∀{lo:List UInt8} {L:List uL} {res base stack:List UInt8} {p:Nat} {l:List Nd} {q:Nat} {m:Mc} {d:Nat} {low:List Int} {cs:List (Nat×Nat×Nat)} {r:Nat},
 Lay f.ao ⟨lo,f.funcs.map (·.typ),gs⟩ L res base stack Yj p l q->m.aC<=N->Ft lo (base++stack) m->oH (gs.map λg=>(g.1,g.2.1==1)) m->cs.length+1=d->d<=16->lo.length<=32->low.length<=cs.length*40032->(base++stack).length+L.length<=p+1->(∀lb∈L,∃b2,base=lb.bt++b2)->
 ∃g t out m',go f B g d H l 0 m=M (t,out,m')/\rk f (gs.map λg=>(g.1,g.2.1==1)) lo L low cs r 640512 p m (base++res) q t out m'
section
variable{f:dH}{B:List (List Nd)}{gs:List (UInt8×UInt8×Nat)}{lo:List UInt8}{L:List uL}{low:List Int}{cs:List (Nat×Nat×Nat)}{r p q d N:Nat}{m:Mc}{base stack res:List UInt8}
structure ua(f:dH)(gs:List (UInt8×UInt8×Nat))(lo base stack:List UInt8)(L:List uL)(low:List Int)(cs:List (Nat×Nat×Nat))(p d:Nat)(m:Mc):Prop where
 ft:Ft lo (base++stack) m
 st:oH (gs.map λg=>(g.1,g.2.1==1)) m
 dc:cs.length+1=d
 T6:d<=16
 l32:lo.length<=32
 low:low.length<=cs.length*40032
 len:(base++stack).length+L.length<=p+1
 pre:∀lb∈L,∃b2,base=lb.bt++b2
 ao:f.ao.length<=40000
 hp:p<f.ao.length
def ua.Qf(h:ua f gs lo base stack L low cs p d m)(b:G.stack.length<=m.stack.length)(r a:Nat):(G.bB low cs r a).stack.length<=640512:=by
 rw[cH];have c:=h.ft.len;have e:=h.len;have g:=h.low;have i:=h.dc;have j:=h.T6;have k:=h.l32;have l:=h.ao;have n:=h.hp;omega
theorem ua.get(h:ua f gs lo base stack L low cs p d m){k:Nat}{a:uL}(b:L[k]?=M a):∃c,base=a.bt++c:=h.pre a (Vw b)
theorem ua.tQ(n:∀b,b<N->Qe f B gs b)(h:ua f gs lo base stack L low cs p d m)(v:m.aC<=N)(w:m.aC≠0){rs0 vt:List UInt8}{l:List Nd}(j:∃k,D=base++k)(x:D.length+L.length<=a)
  (t:Lay f.ao ⟨lo,f.funcs.map (·.typ),gs⟩ (L++[⟨i,D,vt⟩]) rs0 D [] Yj a l o):∀b,b.aC<=N-1->Ft lo D b->oH (gs.map λg=>(g.1,g.2.1==1)) b->
   ∃g t c e,go f B g d H l 0 b=M (t,c,e)/\rk f (gs.map λg=>(g.1,g.2.1==1)) lo (L++[⟨i,D,vt⟩]) low cs r 640512 a b (D++rs0) o t c e:=by
 intro b g y s;refine n _ Y t g Ve s h.dc h.T6 h.l32 h.low Ve λe c=>?_
 obtain⟨k,u⟩:=j;rcases VS.1 c with e|e
 .grind[pre]
 simp_all
end
def oJ{x:dQ}(h:x.op.toNat<=16):bZ E G x=fB E G x:=Mf h
def mK{n:List (UInt8×Bool)}{L:List uL}{b:List (Nat×Nat×Nat)}{p0 q:Nat}{m0 m':Mc}(g:jy E 1 (G.bB I b i p0) (m0.bB I b i o))(r:m0.aC+1=G.aC)
  (h:m'.aC<=m0.aC/\((t≠0/\rC E (2*(m0.aC-m'.aC)) a (m0.bB I b i o) t m'.aC)\/(t=0/\oH n m'/\((y= -1/\Ft D l m'/\jy E (2*(m0.aC-m'.aC)+1) (m0.bB I b i o) (m'.bB I b i q))\/
   ∃k c d,L[k]?=M c/\y=((L.length-1-k:Nat):Int)/\m'.aC<m0.aC/\Ft D (c.bt++d++c.vt) m'/\jy E (2*(m0.aC-m'.aC)) (m0.bB I b i o) ((jC m' c.bt.length c.vt.length).bB I b i c.goal))))):
  rk E n D L I b i a p0 G l q t y m':=by
 obtain⟨v,⟨e,f⟩|⟨e,f,⟨j,m,p⟩|⟨k,c,d,j,m,p,s,u⟩⟩⟩:=h
 .exact⟨Y,Yo ⟨e,(g.JH f).le Y cQ⟩⟩
 .exact⟨Y,Yp ⟨e,f,Yo ⟨j,m,(g.trans p).le Y⟩⟩⟩
 .exact⟨Y,Yp ⟨e,f,Yp ⟨k,c,d,j,m,Y,s,(g.trans u).le Y⟩⟩⟩
def Qg{f:dH}{B:List (List Nd)}{A:List (UInt8×UInt8×Nat)}(a:Fw f B A)(IH:∀a,a<i->Qe f B A a){lo L base stack p d low cs r n mm}{m:Mc}(v:ua f A lo base stack L low cs p d m)(hN:m.aC<=i)(hf:m.aC≠0)(q:G={m with aC:=m.aC-1})
  (hn:n<f.funcs.length)(hm:stack=mm++(f.funcs.getD n du).typ.1)(hc:f.ao.getD p bD=⟨16,n,0,0,0⟩):∃g t m2,mJ f B (go f B g) d n G=M (t,-1,m2)/\m2.aC<m.aC/\rk f (A.map λg=>(g.1,g.2.1==1)) lo L low cs r 640512 p m (base++(mm++(f.funcs.getD n du).typ.2)) (p+1) t (-1) m2:=by
 obtain⟨j,e,h0,h1,h2,he,C,D⟩:=a.fn n hn;have h3:G.aC=m.aC-1:=by rw[q]
 have w:Ft lo (base++stack) G:=by rw[q];exact v.ft.same U U U
 have h4:oH (A.map λg=>(g.1,g.2.1==1)) G:=by rw[q];exact v.st.same U U U
 have E:ep (f.ao.getD p bD).op=true:=by rw[hc];rfl
 obtain⟨c,s⟩:=bL (f.funcs.getD n du);rw[<-s]at h0 h1 h2 D hm⊢;have F:=w.len;have I:=w.aW;rw[hm]at F I;simp only[Vn]at F I;have l:bZ f (G.bB low cs r (p+1)) ⟨16,n,0,0,0⟩=oF f _ n:=oJ Vc;have J:(G.bB low cs r (p+1)).aD=cs++[(low.length,low.length+lo.length,r)]:=(gi w.2.1).1;unfold oF at l;rw[J,<-s,cH]at l;by_cases hd:d=16
 .rw[Vi (by grind[ua.dc])]at l;have u:=gz v.ft.2.1 v.hp E hf (by rw[hc,<-q];exact l);refine⟨0,6,G,?_,Y,Y,Yo ⟨Vb,(u.2 Vb).le Y (v.Qf Ve r (p+1))⟩⟩;unfold mJ;grind
 .rw[Va (by grind[ua.dc]),Vi ⟨hn,Y,Y,Y⟩]at l;have u:=gz v.ft.2.1 v.hp E hf (by rw[hc,<-q];exact l);obtain⟨⟨b,k6,k7,h5,K⟩,N,h6⟩:=w;rw[hm,<-VD]at K;obtain⟨h,o,rfl,k8,P⟩:=K.split;have k9:=P.len;have e1:G.stack=(b++h)++o:=Ve
  have e2:G.stack.length-c.typ.1.length=(b++h).length:=Ve
  have e3:G.stack.drop (G.stack.length-c.typ.1.length)=o:=Ve
  have e4:G.stack.take (G.stack.length-c.typ.1.length)=b++h:=Ve
  have R:P6 f n G={G with stack:=o++List.replicate j.length 0,aD:=[(0,c.aZ,0)]}:=by
   simp_all[P6]
  have h7:Ft (c.typ.1++j) ([]++[]) (P6 f n G):=by
   rw[R];refine⟨⟨o++List.replicate j.length 0,[],Vc,P.app (iP.zeros j),trivial⟩,?_,h6⟩;grind
  have h8:lW f (G.bB low cs r (p+1)) n=(P6 f n G).bB (low++(b++h)) (cs++[(low.length,low.length+lo.length,r)]) (p+1) c.entry:=by
   unfold lW;rw[<-s,J,R,cH];have S:G.stack.length=(b++h).length+o.length:=Y
   show Mc.mk (low++G.stack++_) (_++[(_,_,p+1)]) _ _ _ _ _=Mc.mk (low++(b++h)++(o++_)) (_++[_]) _ _ _ _ _
   have k:low.length+G.stack.length-c.typ.1.length=(low++(b++h)).length+0:=Ve
   have g2:low.length+G.stack.length+(c.aZ-c.typ.1.length)=(low++(b++h)).length+c.aZ:=Y
   rw[k,g2,e1,show c.aZ-c.typ.1.length=j.length by omega];simp;exact⟨U,U,U,U⟩
  rw[h8]at u;obtain⟨g,t,w0,m2,w1,w2,x⟩:=IH (i-1) Y (low:=low++(b++h)) (cs:=cs++[(low.length,low.length+lo.length,r)]) (r:=p+1) (d:=d+1) D (m:=P6 f n G) Ve h7 (h4.same U U U) (by grind[ua.dc]) (cj v.T6) Ve (by
    have k:=v.low;have y:=v.len;grind[ua.ao,ua.hp,ua.l32]) Vc (λz k=>Ve)
  have h9:(P6 f n G).aC=m.aC-1:=h3;rw[h9]at w2 x;have T:mJ f B (go f B g) d n G=if t≠0 then M (t,-1,{m2 with stack:=G.stack,aD:=G.aD})else if fG m2<c.typ.2.length then H else M (0,-1,P7 f n G m2):=by
   unfold mJ;rw[<-s,Va Y,Va hd,w1]
  rcases x with⟨x,k4⟩|⟨x,k4,W⟩
  .refine⟨g,t,_,by rw[T,Vi x],Ve,Ve,Yo ⟨x,?_⟩⟩;exact((u.1 U).JH k4).le Ve cQ
  .subst x;obtain⟨y,X,f2⟩:∃y,Ft (c.typ.1++j) ([]++y++c.typ.2) m2/\jy f (2*(m.aC-1-m2.aC)) ((P6 f n G).bB (low++(b++h)) (cs++[(low.length,low.length+lo.length,r)]) (p+1) c.entry) ((jC m2 ([]:List UInt8).length c.typ.2.length).bB (low++(b++h)) (cs++[(low.length,low.length+lo.length,r)]) (p+1) e):=by
    rcases W with⟨-,k0,k1⟩|⟨k,z,y,W,-,-,k0,k1⟩
    .grind[Ft.Qa]
    .match k,W with
     |0,W=>grind
   obtain⟨c1,c2⟩:=X.cut;have w3:=X.nl;have w4:=X.len;obtain⟨⟨z,k,u1,u2,u3⟩,u4,u5⟩:=c1;have k0:m2.stack.drop (m2.stack.length-c.typ.2.length)=k:=by
    have hx:(jC m2 ([]:List UInt8).length c.typ.2.length).stack=m2.stack.take (nL m2)++m2.stack.drop _:=rfl;grind[List.length_append,List.append_inj,iP.len]
   have k1:=yw (f:=f) (low:=low++(b++h)) (cs:=cs++[(low.length,low.length+lo.length,r)]) (r:=p+1) (p:=e) u4 he (by rw[C];rfl) (s1:=(P7 f n G m2).bB low cs r (p+1)) (by
    rw[oJ Vh];unfold fB;have k2:=tV (low:=low++(b++h)) (cs:=cs++[(low.length,low.length+lo.length,r)]) (r:=p+1) (p:=e+1) u4;have S:((jC m2 ([]:List UInt8).length c.typ.2.length).bB (low++(b++h)) (cs++[(low.length,low.length+lo.length,r)]) (p+1) (e+1)).stack.length=(low++(b++h)).length+(c.typ.1++j).length+k.length:=by
     grind[cH,iP.len]
    rw[C,Va Vb,Va Vb,Va Vb,Va Vb,Vi U,Vi]
    .congr 2
     unfold pQ;rw[k2];simp only[VU];rw[S];unfold lV;have k3:=(gi (low:=low++(b++h)) (cs:=cs++[(low.length,low.length+lo.length,r)]) (r:=p+1) (p:=e+1) u4).1;have k5:((jC m2 ([]:List UInt8).length c.typ.2.length).bB (low++(b++h)) (cs++[(low.length,low.length+lo.length,r)]) (p+1) (e+1)).stack=(low++(b++h))++(z++k):=by show(low++(b++h))++(jC m2 ([]:List UInt8).length c.typ.2.length).stack=_;rw[u1]
     rw[k3,k5];have w5:=u2.len;show Mc.mk _ _ _ _ _ _ _=Mc.mk (low++(G.stack.take _++m2.stack.drop _)) (cs++G.aD.map _) _ _ _ _ _
     rw[<-s,e4,k0,N];congr 1
     .rw[List.take_left];have:(low++(b++h)++(z++k)).length - ((low++(b++h)).length+(c.typ.1++j).length+k.length - ((low++(b++h)).length+(c.typ.1++j).length))=(low++(b++h)++z).length:=by
       grind
      grind
     simp[Wc]
    simp_all[gi])
   refine⟨g,0,P7 f n G m2,by rw[T,Va Vc,Va (by grind[Ft.aW])],by show m2.aC<_;omega,by show m2.aC<=_;omega,Yp ⟨U,k4.same U U U,Yo ⟨U,?_,?_⟩⟩⟩
   .refine⟨⟨b,h++k,?_,h5,?_⟩,N,X.2.2⟩
    .show G.stack.take _++m2.stack.drop _=_
     grind
    grind[iP.app]
   .refine(((u.1 U).trans f2).trans k1).le ?_;clear W;show 1+2*(m.aC-1-m2.aC)+1<=2*(m.aC-m2.aC)
    omega
def Bq{P:Prop}(h:P:=by
 rw[hc,oJ Vc];show(if (m1.bB low cs r (p+1)).stack.length=0 then H else if aU (m1.bB low cs r (p+1))=0 then gy (aI (m1.bB low cs r (p+1))) _ else M (0,aI (m1.bB low cs r (p+1))))=_
 rw[cH,Va Y,di p1,dk p1]):P:=h
def vq{P:Prop}(h:P:=by
 refine iA (g:=g) hf ?_ hR (λ_ a b=>Qh _ Qi a b);grind):P:=h
theorem Qj{f:dH}{B:List (List Nd)}{gs:List (UInt8×UInt8×Nat)}(e:Fw f B gs)(IH:∀e,e<a->Qe f B gs e):Qe f B gs a:=by
 intro lo L h3 s h4 p l q m d low cs r k0 hN D hS F I J K h8 N;obtain⟨m1,z⟩:=bL ({m with aC:=m.aC-1}:Mc);have h5:m1.aC=m.aC-1:=by rw[z]
 have h6:m.aC≠0->m1.aC+1=m.aC:=λ_=>Y
 have P:m1.aC<=a-1:=Y
 have h1:Ft lo (s++h4) m1:=by rw[z];exact D.same U U U
 have S:oH (gs.map λg=>(g.1,g.2.1==1)) m1:=by rw[z];exact hS.same U U U
 have hH:p<f.ao.length->ua f gs lo s h4 L low cs p d m:=λC=>⟨D,hS,F,I,J,K,h8,N,e.ao,C⟩
 have k7:p<f.ao.length-> ∀(k:Nat) (m:Mc),C7 ((L.length-1-k:Nat):Int) m=M (0,((L.length-1-k:Nat):Int),m):=λC k m=>by
  have:=e.ao;simp only[Vn]at h8;unfold C7;grind
 have k8:∀{x:Nd} {l:List Nd} {b:List UInt8} {q:Nat},m.aC=0->p<f.ao.length->ep (f.ao.getD p bD).op=Yk-> ∃g t out T,go f B g d H (x::l) 0 m=M (t,out,T)/\rk f (gs.map λg=>(g.1,g.2.1==1)) lo L low cs r 640512 p m b q t out T:=
  λhf C W=>Qb D hf C W ((hH C).Qf cQ r p)
 cases k0 with
 |nil h=>simp_all[yx]
 | @one _ _ _ _ _ x y w l _ hx W hk G o hm C hc t=>
  have A:ep (f.ao.getD p bD).op=true:=by grind[Qd]
  by_cases hf:m.aC=0
  .simp_all
  obtain⟨E,h2,j,k,G⟩:=G;by_cases v:x=16
  .subst v;obtain⟨c1,c2,c3⟩:=Qc G o;have u:y.n<f.funcs.length:=Ve
   have X:y.take=(f.funcs.getD y.n du).typ.1:=Ve
   have h0:y.put=(f.funcs.getD y.n du).typ.2:=Ve
   obtain⟨-,-,-,-,h7,-⟩:=e.fn y.n u;have h9:s.length+w.length+L.length<=p+1:=Ve
   obtain⟨g,t',m2,k1,k3,R⟩:=Qg e IH (hH C) hN hf z u (by rw[hm,X]) hc;refine iA (g:=g) (t:=t') (out:= -1) (m2:=m2) (st1:=s++(w++y.put)) (q1:=p+1) hf (by rw[<-z];exact k1) (by rw[h0];exact R) (λb c i=>?_);exact IH (a-1) Y t Y c i F I J K Ve N
  .obtain⟨X,h0,t',T,s1,s2,s3,s4,s5,s6⟩:=HC (f:=f) (m:=m1) hk hx W v G o hm h1 S;obtain⟨l1,-,-⟩:=Bo (low:=low) (cs:=cs) (r:=r) (p:=p+1) h1.2.1 X s1;have u:=gz (low:=low) (cs:=cs) (r:=r) D.2.1 C A hf (by rw[hc,<-z];exact l1);refine iA (g:=0) (t:=t') (out:= -1) (m2:=T) (st1:=s++(w++y.put)) (q1:=p+1) hf ?_ ⟨Y,?_⟩ (λb c i=>?_)
   .grind[HH]
   .by_cases b:t'=0
    .obtain⟨-,g2,g3,-⟩:=s5 b;exact Yp ⟨b,g3,Yo ⟨U,g2,(u.1 b).le Y⟩⟩
    .exact Yo ⟨b,(u.2 b).le Y ((hH C).Qf Ve r (p+1))⟩
   .obtain⟨g1,g2,g3,g4⟩:=s5 b;rw[show decide (x=0)=Yj by simp[g1]]at t;exact IH (a-1) Y t Y c i F I J K Y N
 | @br _ _ _ _ _ x n v k b w hx c hm C hc=>
  have A:ep (f.ao.getD p bD).op=true:=by rw[hc];rfl
  by_cases hf:m.aC=0
  .simp_all
  obtain⟨b2,h2⟩:=(hH C).get c;obtain⟨j1,j2⟩:=vp (low:=low) (cs:=cs) (r:=r) (p:=p+1) (x:=b.ed 12) c h2 (by rw[<-hm];exact h1) ⟨U,U,U⟩;have u:=gz (low:=low) (cs:=cs) (r:=r) D.2.1 C A hf (by rw[hc,<-z,oJ (by show UInt8.toNat 12<=16;decide)];exact j1);refine iA (g:=0) (t:=0) (out:=((L.length-1-k:Nat):Int)) (m2:=m1) (st1:=s++h3) (q1:=p+1) hf ?_ ⟨Y,Yp ⟨U,S,Yp ⟨k,b,_,c,U,Y,j2,(u.1 U).le Y⟩⟩⟩ (λ_ E W=>yx E W);unfold fU;grind
 | @abf _ _ _ _ _ n v k b w l _ c hm C hc t=>
  have A:ep (f.ao.getD p bD).op=true:=by rw[hc];rfl
  by_cases hf:m.aC=0
  .simp_all
  obtain⟨b2,h2⟩:=(hH C).get c;have X:Ft lo ((s++(w++b.vt))++[127]) m1:=Ve
  obtain⟨p1,p2,p3,p4⟩:=X.fe;have y:oH (gs.map λg=>(g.1,g.2.1==1)) (aI m1):=S.same U U U;obtain⟨j1,j2⟩:=vp (low:=low) (cs:=cs) (r:=r) (p:=p+1) (x:=b.ed 13) c h2 p4 ⟨U,U,U⟩;have h7:(aI m1).aC=m.aC-1:=h5;have j:bZ f (m1.bB low cs r (p+1)) (b.ed 13)=if aU m1=0 then M (0,(aI m1).bB low cs r (p+1))else gy ((aI m1).bB low cs r (p+1)) (b.ed 13):=by
   rw[oJ (by show UInt8.toNat 13<=16;decide)];show(if (m1.bB low cs r (p+1)).stack.length=0 then H else if aU (m1.bB low cs r (p+1))=0 then M (0,aI (m1.bB low cs r (p+1)))else gy (aI (m1.bB low cs r (p+1))) (b.ed 13))=_
   rw[cH,Va Y,di p1,dk p1]
  have h9:∀G:Q5,fU f B G d ⟨13,n,[((L.length-1-k:Nat):Int)],[],[],v⟩ m1=if aU m1=0 then M (0,-1,aI m1)else M (0,((L.length-1-k:Nat):Int),aI m1):=λG=>by
   show(if fG m1=0 then H else if aU m1=0 then M (0,-1,aI m1)else C7 _ (aI m1))=_
   grind
  by_cases h0:aU m1=0
  .rw[Vi h0]at j;have u:=gz (low:=low) (cs:=cs) (r:=r) D.2.1 C A hf (by rw[hc,<-z];exact j);refine iA (g:=0) (t:=0) (out:= -1) (m2:=aI m1) (st1:=s++(w++b.vt)) (q1:=p+1) hf Ve ⟨Y,Yp ⟨U,y,Yo ⟨U,p4,(u.1 U).le Y⟩⟩⟩ (λ_ E W=>?_);exact IH (a-1) Y t Y E W F I J K Ve N
  .rw[Va h0,j1]at j;have u:=gz (low:=low) (cs:=cs) (r:=r) D.2.1 C A hf (by rw[hc,<-z];exact j);exact iA (g:=0) (t:=0) (out:=((L.length-1-k:Nat):Int)) (m2:=aI m1) (st1:=s++(w++b.vt)) (q1:=p+1) hf Ve ⟨Y,Yp ⟨U,y,Yp ⟨k,b,_,c,U,Y,j2,(u.1 U).le Y⟩⟩⟩
    (λ_ E W=>IH (a-1) Y t Y E W F I J K Ve N)
 | @tab _ _ _ _ _ n v n' ks vt w hm hl C hc hk=>
  have A:ep (f.ao.getD p bD).op=true:=by rw[hc];rfl
  by_cases hf:m.aC=0
  .simp_all
  have X:Ft lo ((s++(w++vt))++[127]) m1:=Ve
  obtain⟨p1,p2,p3,p4⟩:=X.fe;have hv:=p3.1;have y:oH (gs.map λg=>(g.1,g.2.1==1)) (aI m1):=S.same U U U;obtain⟨i,hi⟩:=bL (min (aU m1).toNat n);obtain⟨k,k2⟩:∃k,ks[i]?=M k:=⟨_,Vj Y⟩;obtain⟨k9,b,c,k3,k4,k5⟩:=hk i k k2;obtain⟨b2,h2⟩:=(hH C).get c;obtain⟨j1,j2⟩:=vp (low:=low) (cs:=cs) (r:=r) (p:=p+1) (x:=b.ed 12) c h2 (by rw[k3];exact p4) ⟨U,U,U⟩;have h7:(aI m1).aC=m.aC-1:=h5;have j:bZ f (m1.bB low cs r (p+1)) ⟨14,n,0,0,0⟩=M (0,(jC (aI m1) b.bt.length b.vt.length).bB low cs r b.goal):=by
   rw[oJ Vc];show(if (m1.bB low cs r (p+1)).stack.length=0\/aU (m1.bB low cs r (p+1))<0 then H else if p+1+(min (aU (m1.bB low cs r (p+1))) (n:Int)).toNat<f.ao.length then gy (aI (m1.bB low cs r (p+1))) (f.ao.getD (p+1+(min (aU (m1.bB low cs r (p+1))) (n:Int)).toNat) bD)else H)=_
   rw[cH,di p1,dk p1,Va Y,show(min (aU m1) (n:Int)).toNat=i by omega,Vi k4,k5];exact j1
  have u:=gz (low:=low) (cs:=cs) (r:=r) D.2.1 C A hf (by rw[hc,<-z];exact j);refine iA (g:=0) (t:=0) (out:=((L.length-1-k:Nat):Int)) (m2:=aI m1) (st1:=s++h3) (q1:=p+n+2) hf ?_ ⟨Y,Yp ⟨U,y,Yp ⟨k,b,_,c,U,Y,j2,(u.1 U).le Y⟩⟩⟩ (λ_ E W=>yx E W);rw[<-z];obtain⟨kn,k6⟩:∃k,ks[n]?=M k:=⟨_,Vj Y⟩;obtain⟨-,w0,-,-,w1,-⟩:=hk n kn k6;have w2:=e.ao;show(if fG m1=0\/aU m1<0\/1000000<(ks.map λk=>((L.length-1-k:Nat):Int)).length then H else ((ks.map λk=>((L.length-1-k:Nat):Int))[min (aU m1).toNat ((ks.map λk=>((L.length-1-k:Nat):Int)).length-1)]?).bind (λo=>C7 o (aI m1)))=_
  grind
 | @az _ _ _ _ _ x n k b q1 l _ hx hr C hc o t2=>
  have A:ep (f.ao.getD p bD).op=true:=by rw[hc];rcases hx with h|h<;>(rw[h];rfl)
  by_cases hf:m.aC=0
  .simp_all
  have j:bZ f (m1.bB low cs r (p+1)) (f.ao.getD p bD)=M (0,m1.bB low cs r (p+1)):=by
   rw[oJ (by rw[hc];rcases hx with h|h<;>(simp_all))];unfold fB;grind
  have u:=(gz (low:=low) (cs:=cs) (r:=r) D.2.1 C A hf (by rw[<-z];exact j)).1 U;have i:=(hH C).tQ (r:=r) IH hN hf ⟨h4,U⟩ Y o;obtain⟨g,t',out,m2,k1,R⟩:=qQ (x:=⟨x,n,[],b,[],k.length⟩) (p:=p+1) (q1:=q1) (q:=q1) (bt:=s++h4) (rs0:=k) (λh=>Ve) (λh=>Ve) (λT _=>⟨0,Y,jy.refl _ _⟩) i (a-1) cQ m1 P h1 S;have hR:=mK u (h6 hf) R;have Qi:m2.aC<=a-1:=Vk R.1 P;clear R;rw[VD]at hR;refine iA (g:=g) hf ?_ hR (λ_ E W=>IH (a-1) Y t2 Qi E W F I J K ?_ N)
  .rw[<-z];unfold fU;rw[Vi hx,h1.aW];exact k1
  .have E:=Da o;grind
 | @ifn _ _ _ _ _ n w b q1 l _ hm C hc o t2=>
  have A:ep (f.ao.getD p bD).op=true:=by rw[hc];rfl
  by_cases hf:m.aC=0
  .simp_all
  have X:Ft lo ((s++w)++[127]) m1:=Ve
  obtain⟨p1,p2,p3,p4⟩:=X.fe;have y:oH (gs.map λg=>(g.1,g.2.1==1)) (aI m1):=S.same U U U;have h7:(aI m1).aC=m.aC-1:=h5;have k2:fG m1-1=(s++w).length:=by grind[Ft.aW]
  have k3:(s++w).length+L.length<=p:=Ve
  have j:bZ f (m1.bB low cs r (p+1)) (f.ao.getD p bD)=if aU m1=0 then gy ((aI m1).bB low cs r (p+1)) ⟨4,0,q1,(s++w).length,0⟩else M (0,(aI m1).bB low cs r (p+1)):=by
   exact Bq
  have h9:∀G:Q5,fU f B G d ⟨4,n,[],b,[],0⟩ m1=G d (M ⟨4,n,[],b,[],0⟩) (if aU m1=0 then []else b) (s++w).length (aI m1):=λG=>by
   show(if fG m1=0 then H else _)=_
   grind
  have Qh:∀m2:Mc,m2.aC<=a-1->Ft lo (s++w) m2->oH (gs.map λg=>(g.1,g.2.1==1)) m2-> ∃g t out T,go f B g d H l 0 m2=M (t,out,T)/\rk f (gs.map λg=>(g.1,g.2.1==1)) lo L low cs r 640512 q1 m2 (s++h3) q t out T:=λm2 h0 E W=>IH (a-1) Y t2 h0 E W F I J K (cj (Da o)) N
  by_cases h0:aU m1=0
  .have v:=qP (low:=low) (cs:=cs) (r:=r) (p:=p+1) (bt:=s++w) (mid:=[]) (vt:=[]) (x:=⟨4,0,q1,(s++w).length,0⟩) (m:=aI m1) (by simpa using p4) U U;rw[Ft.Qa (bt:=s++w) (vt:=[]) (by simpa using p4)]at v;rw[Vi h0,v]at j;have u:=(gz (low:=low) (cs:=cs) (r:=r) D.2.1 C A hf (by rw[<-z];exact j)).1 U;refine iA (g:=2) (t:=0) (out:= -1) (m2:=aI m1) (st1:=s++w) (q1:=q1) hf ?_ ⟨Y,Yp ⟨U,y,Yo ⟨U,p4,u.le Y⟩⟩⟩ (λ_ E W=>Qh _ Y E W);simp_all[go]
  .rw[Va h0]at j;have u:=(gz (low:=low) (cs:=cs) (r:=r) D.2.1 C A hf (by rw[<-z];exact j)).1 U;have i:=(hH C).tQ (r:=r) IH hN hf ⟨w,U⟩ Y o;obtain⟨g,t',out,m2,k1,R⟩:=qQ (x:=⟨4,n,[],b,[],0⟩) (p:=p+1) (q1:=q1) (q:=q1) (bt:=s++w) (rs0:=[]) (λh=>by cases h) (λ_=>⟨U,U,U⟩) (λT _=>⟨0,Y,jy.refl _ _⟩) i (a-1) cQ (aI m1) P p4 y;have hR:=mK u (h6 hf) R;have Qi:m2.aC<=a-1:=Vk R.1 P;clear R;rw[VF]at hR;exact vq
 | @ife _ _ _ _ _ n w k b q1 c q2 l _ hm hr C hc o k4 h2 t3 t2=>
  have A:ep (f.ao.getD p bD).op=true:=by rw[hc];rfl
  by_cases hf:m.aC=0
  .simp_all
  have X:Ft lo ((s++w)++[127]) m1:=Ve
  obtain⟨p1,p2,p3,p4⟩:=X.fe;have y:oH (gs.map λg=>(g.1,g.2.1==1)) (aI m1):=S.same U U U;have h7:(aI m1).aC=m.aC-1:=h5;have k2:fG m1-1=(s++w).length:=by grind[Ft.aW]
  have k3:(s++w).length+L.length<=p:=Ve
  have j:bZ f (m1.bB low cs r (p+1)) (f.ao.getD p bD)=if aU m1=0 then gy ((aI m1).bB low cs r (p+1)) ⟨4,0,q1+1,(s++w).length,0⟩else M (0,(aI m1).bB low cs r (p+1)):=by
   exact Bq
  have h9:∀G:Q5,fU f B G d ⟨4,n,[],b,c,k.length⟩ m1=G d (M ⟨4,n,[],b,c,k.length⟩) (if aU m1=0 then c else b) (s++w).length (aI m1):=λG=>by
   show(if fG m1=0 then H else _)=_
   grind
  have G:=Da t3;have k5:=Da o;have Qh:∀m2:Mc,m2.aC<=a-1->Ft lo (s++(w++k)) m2->oH (gs.map λg=>(g.1,g.2.1==1)) m2-> ∃g t out T,go f B g d H l 0 m2=M (t,out,T)/\rk f (gs.map λg=>(g.1,g.2.1==1)) lo L low cs r 640512 q2 m2 (s++h3) q t out T:=λm2 h0 E W=>IH (a-1) Y t2 h0 E W F I J K Ve N
  by_cases h0:aU m1=0
  .have v:=qP (low:=low) (cs:=cs) (r:=r) (p:=p+1) (bt:=s++w) (mid:=[]) (vt:=[]) (x:=⟨4,0,q1+1,(s++w).length,0⟩) (m:=aI m1) (by simpa using p4) U U;rw[Ft.Qa (bt:=s++w) (vt:=[]) (by simpa using p4)]at v;rw[Vi h0,v]at j;have u:=(gz (low:=low) (cs:=cs) (r:=r) D.2.1 C A hf (by rw[<-z];exact j)).1 U;have i:=(hH C).tQ (r:=r) IH hN hf ⟨w,U⟩ Y t3;obtain⟨g,t',out,m2,k1,R⟩:=qQ (x:=⟨4,n,[],b,c,k.length⟩) (p:=q1+1) (q1:=q2) (q:=q2) (bt:=s++w) (rs0:=k) (λh=>by cases h) (λ_=>⟨U,U,U⟩) (λT _=>⟨0,Y,jy.refl _ _⟩) i (a-1) cQ (aI m1) P p4 y;have hR:=mK u (h6 hf) R;have Qi:m2.aC<=a-1:=Vk R.1 P;clear R;rw[VD]at hR;exact vq
  .rw[Va h0]at j;have u:=(gz (low:=low) (cs:=cs) (r:=r) D.2.1 C A hf (by rw[<-z];exact j)).1 U;have i:=(hH C).tQ (r:=r) IH hN hf ⟨w,U⟩ Y o;obtain⟨g,t',out,m2,k1,R⟩:=qQ (x:=⟨4,n,[],b,c,k.length⟩) (p:=p+1) (q1:=q1) (q:=q2) (bt:=s++w) (rs0:=k) (λh=>by cases h) (λ_=>⟨U,U,U⟩) (λT h=>by
    refine⟨1,cQ,yw (n:=lo.length) h.2.1 k4 (by rw[h2];rfl) ?_⟩;rw[h2,oJ Vc];have v:=qP (low:=low) (cs:=cs) (r:=r) (p:=q1+1) (bt:=s++w) (mid:=[]) (vt:=k) (x:=⟨5,0,q2,(s++w).length,k.length⟩) (m:=T) (by simpa using h) U U;rw[Ft.Qa h]at v;exact v) i (a-1) cQ (aI m1) P p4 y
   have hR:=mK u (h6 hf) R;have Qi:=Vk R.1 P;rw[VD]at hR;exact vq
def Tc{B:List (List Nd)}{b:List (UInt8×UInt8×Nat)}(a:Fw E B b)(N:Nat):Qe E B b N:=by
 induction N using Nat.strongRecOn with
 |ind N ih=>grind[Qj]
def Ih{low:List Int}{cs:List (Nat×Nat×Nat)}{r:Nat}(h:Ft D l G)(k:i<E.ao.length)(b:(E.ao.getD i bD).op=11):
  ∃a,G.stack.drop D.length=a/\iP a l/\jy E 1 (G.bB low cs r i) {G with stack:=low++a,aD:=cs,pos:=r}:=by
 obtain⟨⟨c,a,n,o,q⟩,d,s⟩:=h;have t:=o.len;refine⟨a,Ve,q,yw d k (by rw[b];rfl) ?_⟩;rw[oJ Vh];unfold fB;have e:=tV (m:=G) (low:=low) (cs:=cs) (r:=r) (p:=i+1) d;have f:(G.bB low cs r (i+1)).stack.length=low.length+D.length+a.length:=by
  grind[cH]
 rw[b,Va Vb,Va Vb,Va Vb,Va Vb,Vi U,Vi]
 .congr 2
  unfold pQ;rw[e];simp only[VU];rw[f];unfold lV;have g:=(gi (m:=G) (low:=low) (cs:=cs) (r:=r) (p:=i+1) d).1;have j:(G.bB low cs r (i+1)).stack=low++(c++a):=by show low++G.stack=_;rw[n]
  rw[g,j];show Mc.mk _ _ _ _ _ _ _=Mc.mk _ _ _ _ _ _ _
  congr 1<;>simp_all
 simp_all[gi]
def mc0(f:dH)(n:Nat)(args:List Int)(aC:Nat)(mem:List UInt8)(gl:List Int)(bG:List (Int×Int)):Mc:=⟨args++List.replicate ((f.funcs.getD n du).aZ - (f.funcs.getD n du).typ.1.length) 0,[(0,(f.funcs.getD n du).aZ,0)],1,aC,mem,gl,bG⟩
def abO(f:dH)(n:Nat)(m:Mc):Int:=if (f.funcs.getD n du).typ.2.length=0 then 0 else m.stack.getD (m.stack.length-1) 0
def ME{B:List (List Nd)}{x:List (UInt8×UInt8×Nat)}(b:Fw E B x)(W:i<E.funcs.length)(y:iP I (E.funcs.getD i du).typ.1)(X:a<=100000){gl:List Int}{l:List (Int×Int)}
  (hS:oH (x.map λg=>(g.1,g.2.1==1)) ⟨[],[],0,0,D,gl,l⟩):
  ∃g t n f,go E B g 1 H (B.getD i []) 0 (mc0 E i I a D gl l)=M (t,n,f)/\f.aC<=a/\ ∃v o,FE E i I a D gl l 300000=M (t,v,a-f.aC,o)/\
   (t≠0->v=0)/\(t=0->v=abO E i f/\o.mem=f.mem/\o.gl=f.gl/\o.bG=f.bG/\(E.funcs.getD i du).typ.2.length<=fG f/\oH (x.map λg=>(g.1,g.2.1==1)) ⟨[],[],0,0,f.mem,f.gl,f.bG⟩):=by
 obtain⟨k,e,z,A,C,he,F,q⟩:=b.fn i W;obtain⟨j,G⟩:=bL (E.funcs.getD i du);have J:=y.len;unfold mc0 abO;rw[<-G]at z A C q y J⊢;have K:(j.typ.1++k).length=j.aZ:=Ve
 rw[show j.aZ-j.typ.1.length=k.length by omega];have L:Ft (j.typ.1++k) ([]++[]) (⟨I++List.replicate k.length 0,[(0,j.aZ,0)],1,a,D,gl,l⟩:Mc):=⟨⟨I++List.replicate k.length 0,[],Vc,y.app (iP.zeros k),trivial⟩,by rw[K],U⟩;obtain⟨g,t,n,f,k1,k2,s⟩:=Tc b a (low:=[]) (cs:=[]) (r:=0) (d:=1) q cQ L (hS.same U U U) U Vb Y Vc Vc (λh c=>Ve);have N:lW E ⟨I,[],0,a,D,gl,l⟩ i=(⟨I++List.replicate k.length 0,[(0,j.aZ,0)],1,a,D,gl,l⟩:Mc).bB [] [] 0 j.entry:=by
  simp_all[lW,Mc.bB]
 have u:f.aC<=a:=k2;refine⟨g,t,n,f,k1,u,?_⟩;unfold FE;rw[N];rcases s with⟨s,c,o,P,k5,k6,k7⟩|⟨s,P,k5⟩
 .have m:c<=2*(a-f.aC):=P;have p:=k7 (299999-c);rw[show c+1+(299999-c)=300000 by omega]at p;rw[p];refine⟨0,o,?_,λ_=>rfl,λh=>absurd h s⟩;grind
 .subst s;obtain⟨v,w,f2⟩:∃v,Ft (j.typ.1++k) ([]++v++j.typ.2) f/\jy E (2*(a-f.aC)) ((⟨I++List.replicate k.length 0,[(0,j.aZ,0)],1,a,D,gl,l⟩:Mc).bB [] [] 0 j.entry) ((jC f ([]:List UInt8).length j.typ.2.length).bB [] [] 0 e):=by
   grind[Ft.Qa]
  obtain⟨c1,c2⟩:=w.cut;have h0:=w.nl;have R:=w.len;simp only[V1,Vn]at R;obtain⟨m,u1,u2,u3⟩:=Ih (low:=[]) (cs:=[]) (r:=0) c1 he F;obtain⟨c,hc,S⟩:=f2.trans u3;have h1:=hc;have p:=S (300000-c);rw[show c+(300000-c)=300000 by omega,show 300000-c=(299999-c)+1 by omega]at p;have h8:l9 E (299999-c+1) {jC f ([]:List UInt8).length j.typ.2.length with stack:=[]++m,aD:=[],pos:=0}=M (0,{jC f ([]:List UInt8).length j.typ.2.length with stack:=[]++m,aD:=[],pos:=0}):=Vg
  rw[h8]at p;rw[p];have h2:m=f.stack.drop (f.stack.length-j.typ.2.length):=by
   rw[<-u1];show(f.stack.take (nL f+0)++f.stack.drop (f.stack.length-j.typ.2.length)).drop _=_
   grind
  have T:=u2.len;rw[V1]at T;refine⟨if j.typ.2.length=0 then 0 else f.stack.getD (f.stack.length-1) 0,{jC f ([]:List UInt8).length j.typ.2.length with stack:=[]++m,aD:=[],pos:=0},?_,λh=>absurd U h,λ_=>⟨U,U,U,U,by rw[w.aW];simp,P.same U U U⟩⟩;simp only;rw[Vi ⟨u,Ve⟩];show M (0,_,a-f.aC,_)=_
  congr 3
  by_cases h:j.typ.2.length=0
  .grind
  .rw[Va h,Vi ⟨trivial,Vd⟩];grind[aU]
end
section
open Go.RowKit
open Rf (ptr bh)
def mT.le'{w:Yw}{Dw:Nat->Prop}{c:List dQ}(h:mT w R v c)(f:∀b,R b->Dw b):mT w Dw v c:=by
 obtain⟨b,a,d,e,g⟩:=h;refine⟨b,a,d,e,λj i=>?_⟩;grind
def dy.le'{w:Yw}{Dw:Nat->Prop}{t:TypeId}(h:dy w R i t E)(a:∀b,R b->Dw b):dy w Dw i t E:=by
 obtain⟨b,gv,c,h⟩:=h;exact⟨b,gv,c,h.az,a _ h.own,h.funcs.le a,h.dW,h.Jr.le a,h.ao.le' a⟩
theorem tI.le{w:Yw}{Dw:Nat->Prop}{B:List (List Nd)}(h:tI w R i E B)(c:∀b,R b->Dw b):tI w Dw i E B:=by
 obtain⟨k,l,m,gv,o,p,q,b,r,s,t⟩:=h;refine⟨c _ k,l,m,gv,o,p,q,b,r,s,λn u=>?_⟩;obtain⟨a,v,x,y,z,A,e1,e2,e3,e4,e5,C,D,F,G,d,e,f,g,j⟩:=t n u;exact⟨a,v,x,y,z,A,e1,c _ e2,e3,e4,e5,C,D,F.le c,G,d.le c,e,f.le c,g,j.kp (Kp.refl no w) bW c⟩
def MH(w:Yw)(ro:Nat->Prop)(yb:Nat)(f:dH):Prop:= ∃tv fv gv cells,w.heap[yb]?=M (Yl #[tv,fv,gv,V O f.bI] 149)/\ro yb/\nS ro gv/\aw w gv 3 f.globals.length cells/\ ∀k,k<f.globals.length->cells[k*3+2]?=M (V Yr (f.globals.getD k 0:Nat))
structure Md where
 x:Nat
 y:Nat
 f:dH
 B:List (List Nd)
 gs:List (UInt8×UInt8×Nat)
abbrev Iq(m:Md)(mem:List UInt8)(gl:List Int):Prop:= ∀bG:List (Int×Int),bG.length<=8->oH (m.gs.map λg=>(g.1,g.2.1==1)) ⟨[],[],0,0,mem,gl,bG⟩
structure MdP(m:Md):Prop where
 mt:Fw m.f m.B m.gs
 fo:m.f.Ok
 fn:yC m.f
 n16:m.f.funcs.length<=16
 l:∀t∈m.f.funcs.map (·.typ),t.1.length<=8/\t.2.length<=1
 pg:m.f.bI<=4
 gn:m.f.globals.length<=8
 st:Iq m (List.replicate (m.f.bI*64) 0) (m.f.globals.map λ(n:Nat)=>((n:Nat):Int))
structure Di(w:Yw)(ro:Nat->Prop)(m:Md):Prop where
 x:dy w ro m.x 123 m.f
 y:tI w ro m.y m.f m.B
 g:MH w ro m.y m.f
 p:MdP m
structure St where
 tb:Nat
 sb:Nat
 p:Option Nat
 bG:List (Int×Int)
 st:List (Int×Int)
 kv:Yx
 vv:Yx
structure zu(w:Yw)(ro:Nat->Prop)(s:St):Prop where
 map:nP w s.p s.bG
 ro:∀b,s.p=M b->ro b
 eq:lY s.st s.bG
 few:s.st.length<=8
def Dj(s:St):Nat->Wt
 |0=>.dT s.tb #[V .i32 0,V .u32 0,.map s.p] 110
 |1=>.dT s.sb #[s.kv,s.vv] 96
 |2=>.row 2 1 s.kv s.st.length (aQ (s.st.map (·.1)))
 |3=>.row 2 1 s.vv s.st.length (aQ (s.st.map (·.2)))
 |_=>.none
structure In where
 ib:Nat
 xb:Nat
 m:Md
 s:Nat
 tb:Nat
 sb:Nat
 pm:Yx
 pg:Yx
 mv:Yx
 gv:Yx
 mem:List UInt8
 gl:List Int
structure rZ(w:Yw)(ro:Nat->Prop)(iG:List St)(x:In):Prop where
 m:Di w ro x.m
 pm:aw w x.pm 1 x.mem.length (aP x.mem)
 pmR:nS ro x.pm
 pg:aw w x.pg 1 x.gl.length (ay x.gl)
 pgR:nS ro x.pg
 Uo:Iq x.m x.mem x.gl
 s:∃s,iG[x.s]?=M s/\s.tb=x.tb/\s.sb=x.sb
def wS(x:In):Nat->Wt
 |0=>.dT x.ib #[aj x.tb,aj x.m.x,x.pm,x.pg] 112
 |1=>.dT x.xb #[ptr x.m.y,ptr x.sb,x.mv,x.gv] 196
 |2=>.row 5 1 x.mv x.mem.length (aP x.mem)
 |3=>.row 38 1 x.gv x.gl.length (ay x.gl)
 |_=>.none
def Ls(kd:IntKind)(w:Yw)(ro:Nat->Prop)(v:Yx)(m:Int):Prop:= ∃n,n<=1000/\aw w v 1 n (List.replicate n (V kd m))/\nS ro v
def qg(kd:IntKind)(w:Yw)(ro:Nat->Prop)(cnt:Nat)(cells:List Yx):Prop:=
 ∀(k:Nat),k<cnt-> ∃(l a b c:Yx) (m:Int),cells[k*5]?=M l/\cells[k*5+1]?=M a/\cells[k*5+2]?=M b/\cells[k*5+3]?=M c/\cells[k*5+4]?=M (V kd m)/\Ls kd w ro l m/\Ls kd w ro a m/\Ls kd w ro b m/\Ls kd w ro c m
structure gI where
 wb:Nat
 eZ:List Md
 iG:List St
 ed:List In
 n:Int
 tr:Bool
 mv:Yx
 sv:Yx
 iv:Yx
 bv:Yx
 vv:Yx
 kv:Yx
 nb:Nat
 nv:Nat
 nk:Nat
 bc:List Yx
 vc:List Yx
 kc:List Yx
inductive Ix
 |law (i:Nat)
 |iQ (j r:Nat)
 |ed (j r:Nat)
abbrev hJ(S:gI):Array Value:=#[S.mv,S.sv,S.iv,V O S.n,S.bv,S.vv,S.kv,Yt S.tr]
def aao(S:gI):Nat->Wt
 |0=>.dT S.wb (hJ S) 90
 |1=>.row 144 2 S.mv S.eZ.length (S.eZ.flatMap λm=>[aj m.x,ptr m.y])
 |2=>.row 99 2 S.sv S.iG.length (S.iG.flatMap λs=>[aj s.tb,ptr s.sb])
 |3=>.row 154 2 S.iv S.ed.length (S.ed.flatMap λx=>[aj x.ib,ptr x.xb])
 |4=>.row 158 5 S.bv S.nb S.bc
 |5=>.row 161 5 S.vv S.nv S.vc
 |6=>.row 164 5 S.kv S.nk S.kc
 |_=>.none
def gI.J(S:gI):Ix->Wt
 |.law i=>aao S i
 |.iQ j r=>match S.iG[j]? with
  |none=>.none
  |some s=>Dj s r
 |.ed j r=>match S.ed[j]? with
  |none=>.none
  |some x=>wS x r
structure Rd0(w:Yw)(ro:Nat->Prop)(S:gI):Prop where
 tab:eN w ro
 t2:nz w
 r2:ro 2
 ms:∀m∈S.eZ,Di w ro m
 ss:∀s∈S.iG,zu w ro s
 is:∀x∈S.ed,rZ w ro S.iG x
 b:qg Ys w ro S.nb S.bc
 v:qg Yr w ro S.nv S.vc
 k:qg O w ro S.nk S.kc
structure Dk(w:Yw)(X:Nat->Prop)(S:gI):Prop where
 hp:Hw w S.J
 rd:Rd0 w (RO w X S.J) S
 m4:S.eZ.length<=4
 s4:S.iG.length<=4
 i4:S.ed.length<=4
 n0: -9223372036854775808<=S.n/\S.n<=9223372036854775807
section
variable{w w':World}{ro Dw:Nat->Prop}(k:Kp (fy ro) w w')(hr:∀b,ro b->Dw b)
include k hr
theorem Ls.on(h:Ls A w ro v y):Ls A w' Dw v y:=by
 obtain⟨n,c,d,a⟩:=h;exact⟨n,c,aw.ro d a k,a.le hr⟩
theorem qg.on(h:qg A w ro i F):qg A w' Dw i F:=λj d=>by
 obtain⟨l,a,b,c,m,e,f,g,n,o,p,q,r,s⟩:=h j d;exact⟨l,a,b,c,m,e,f,g,n,o,p.on k hr,q.on k hr,r.on k hr,s.on k hr⟩
theorem eN.on(h:eN w ro):eN w' Dw:=by
 obtain⟨a,o,c,d,e,f,g,i⟩:=eN.kp h k;exact⟨a,o,c,d,e,hr _ f,hr _ g,i⟩
theorem MH.on(h:MH w ro i E):MH w' Dw i E:=by
 obtain⟨e,f,gv,a,g,c,d,j,l⟩:=h;exact⟨e,f,gv,a,k.az g (λm=>m c),hr _ c,d.le hr,aw.ro j d k,l⟩
theorem Di.on{m:Md}(h:Di w ro m):Di w' Dw m:=⟨(h.x.kp k).le' hr,(h.y.kp k).le hr,h.g.on k hr,h.p⟩
theorem zu.on{s:St}(h:zu w ro s):zu w' Dw s:=⟨h.map.kp k (λb a c=>c (h.ro b a)),λb a=>hr _ (h.ro b a),h.eq,h.few⟩
theorem rZ.on{a:List St}{x:In}(h:rZ w ro a x):rZ w' Dw a x:=⟨h.m.on k hr,aw.ro h.pm h.pmR k,h.pmR.le hr,aw.ro h.pg h.pgR k,h.pgR.le hr,h.Uo,h.s⟩
theorem Rd0.on{S:gI}(h:Rd0 w ro S):Rd0 w' Dw S:=⟨h.tab.on k hr,h.t2.kp k (λa=>a h.r2),hr _ h.r2,λm a=>(h.ms m a).on k hr,λs c=>(h.ss s c).on k hr,λx a=>(h.is x a).on k hr,h.b.on k hr,h.v.on k hr,h.k.on k hr⟩
end
section
variable{w w':World}{X X':Nat->Prop}{S:gI}
theorem Dk.kp(h:Dk w X S)(k:Kp no w w')(a:∀b,X' b->X b\/w.heap.size<=b):Dk w' X' S:=
 ⟨h.hp.quiet k (λ_ _ h=>h.elim),h.rd.on (RO.kp k (λ_ _ h=>h.elim)) (RO.on k.size (λi b e=> Yo ⟨i,e⟩) (λb c=>(a b c).imp id Yp)),h.m4,h.s4,h.i4,h.n0⟩
theorem Dk.az(h:Dk w X S):w.heap[S.wb]?=M (Yl (hJ S) 90):=h.hp.dY (.law 0)
def Dk.aap(h:Dk w X S):rY w:=by
 obtain⟨a,o,b,c,d,e,f,g⟩:=h.rd.tab;exact⟨a,o,b,c,d,e.1,f.1,g⟩
theorem Dk.hO(h:Dk w X S)(i:Ix):(S.J i).az≠M 2:=h.rd.r2.2.2 i
end
end
section
open Go.RowKit
theorem qg.rI{w:Yw}{c:Yx}(h:qg A w R i F)(t:F.length=i*5)(B:Ls A w R v y/\Ls A w R u y/\Ls A w R z y/\Ls A w R c y):qg A w R (i+1) (F++[v,u,z,c,V A y]):=by
 intro j C;rcases VE j i with b|d
 .obtain⟨e,f,g,k,l,m,n,o,p,r,s⟩:=h j b;have a:∀{q:Nat} {x:Yx},F[q]?=M x->(F++[v,u,z,c,V A y])[q]?=M x:=λD=>by
   grind
  exact⟨e,f,g,k,l,a m,a n,a o,a p,a r,s⟩
 .obtain rfl :j=i:=Y
  simp_all
abbrev less(X:Nat->Prop)(v:Yx):Nat->Prop:=λb=>X b/\v.ownBlock≠M b
structure wC(w:Yw)(X:Nat->Prop)(S:gI)(v:Yx):Prop where
 x:∀b,v.ownBlock=M b->X b
 np:∀b i,v.ownBlock=M b->(S.J i).az≠M b
section
variable{w w':World}{X:Nat->Prop}{S S':gI}
def sa{tS:TypeId}{C:Int->Yx->Array Yx}{wJ a b c:Yx}{n:Nat}{m:Int}(h:Dk w X S)(q:D7 A tS C S.wb u t F z n w w' y m wJ a b c)(N:o≠0)
  (e1:S.J (.law o)=.row tS 5 u t F)(B:S'.J (.law 0)=.dT S.wb (C y wJ) 90)(D:S'.J (.law o)=.row tS 5 wJ (t+1) (F++[z,a,b,c,V A m]))(E:∀i,i≠ .law 0->i≠ .law o->S'.J i=S.J i)
  (P:n<=300)(R:∀b,X b->b<w.heap.size)(I:wC w X S z)(g:∀b,z.ownBlock=M b->b<w.heap.size):
  Hw w' S'.J/\Kp (fy (RO w X S.J)) w w'/\(∀b,RO w X S.J b->RO w' (less X z) S'.J b)/\Ls A w' (RO w' (less X z) S'.J) z m/\Ls A w' (RO w' (less X z) S'.J) a m/\Ls A w' (RO w' (less X z) S'.J) b m/\Ls A w' (RO w' (less X z) S'.J) c m/\ ∀i b,(S'.J i).az=M b->b<w.heap.size->(S.J i).az=M b:=by
 have G:(S.J (.law 0)).az=M S.wb:=rfl;have p:(S.J (.law o)).az=u.ownBlock:=by rw[e1];rfl
 have J:(S'.J (.law 0)).az=M S.wb:=by rw[B];rfl
 have r:(S'.J (.law o)).az=wJ.ownBlock:=by rw[D];rfl
 have K:=q.kp.size;have s:=au h.az;have x:∀i b,(S'.J i).az=M b->b<w.heap.size->(S.J i).az=M b:=λi b d g=>by
  by_cases j:i=.law 0
  .grind
  by_cases e:i=.law o
  .subst e;rw[r]at d;rw[p];exact q.mv.old d g
  grind
 have L:∀i b,(S'.J i).az=M b->w.heap.size<=b->wJ.ownBlock=M b:=λi b d f=>by
  by_cases j:i=.law 0
  .grind
  by_cases e:i=.law o
  .grind
  rw[E i j e]at d;have:=(h.hp.dY i).lt d;omega
 have l:∀v k,Mk w' _ v k->k<=1000->Mv w z v->(∀b,wJ.ownBlock=M b->w.heap.size<=b->v.ownBlock≠M b)->Ls A w' (RO w' (less X z) S'.J) v m:=λv k e j T W=>by
  refine⟨k,j,e.row,λb d=>⟨e.lt d,λj=>?_,λi e=>?_⟩⟩
  .grind[Mv.old]
  grind[wC.np,Mv.old]
 refine⟨h.hp.yU (λi=>i=.law 0\/i=.law o) q.kp (λb i d hi=>?_) (λi hi=>E i (λe=>hi (Yo e)) (λe=>hi (Yp e))) ?_ ?_ ?_,RO.kp q.kp (λb g d=>?_),RO.on K (λi b e=>?_) (λb d=> Yo d.1),l z n q.ml Y (Yo U) (λb _ f e=>Ve),l a _ q.ma Y q.al (λb d f=>(q.ap b d f).1),l b _ q.mb Y q.bl (λb d f=>(q.ap b d f).2.1),l c _ q.mc Y q.cl (λb d f=>(q.ap b d f).2.2),x⟩
 .rcases d with rfl |d|d
  .exact Yo (h.hp.ap _ _ _ hi G)
  .exact Yp (h.hp.ap _ _ _ hi (p.trans d))
  grind[wC.np]
 .rintro i (rfl |rfl)
  .rw[B];exact q.az
  .rw[D];exact q.row
 .rintro i b (rfl |rfl) d
  .grind
  .rw[r]at d;rcases VE b w.heap.size with g|f
   .grind
   .exact Yp (λj=>h.hp.new f j)
 .have f:wJ.ownBlock≠M S.wb:=λe=>by
   have:=h.hp.ap _ _ S.wb (p.trans (q.mv.old e s)) G;grind
  grind
 .rcases d with rfl |d|d
  .grind
  .grind
  .exact Yo (I.x b d)
 grind
def hi(B:Nat):Nat->Prop:=λq=>B<=q
structure gB(B:Nat)(w:Yw)(X:Nat->Prop)(S:gI):Prop where
 l:Dk w X S
 up:∀i b,(S.J i).az=M b->B<=b
 le:B<=w.heap.size
theorem gB.kp{X':Nat->Prop}(h:gB i w X S)(k:Kp no w w')(a:∀b,X' b->X b\/w.heap.size<=b):gB i w' X' S:=⟨h.l.kp k a,h.up,rq k.size h.le⟩
def JM(B:Nat)(w:Yw)(X:Nat->Prop)(S:gI)(lv:Yx)(F:Int->Yx->List Yx->gI)(r:Ending)(w':Yw):Prop:=
 r= Yq (Yu #[])/\ ∃n' v' cs',gB B w' (less X lv) (F n' v' cs')/\Kp (hi B) w w'/\Kp (λq=>(∃i,(S.J i).az=M q)\/lv.ownBlock=M q) w w'/\ ∀i b,((F n' v' cs').J i).az=M b->b<w.heap.size->(S.J i).az=M b
def Dk.l4(h:Dk w X S){i:Ix}{t:TypeId}(e:S.J i=.row t a v o F):w.ownsRow 0 t a v o F:=by
 have:=h.hp.dY i;rw[e]at this;exact this
end
def gB.bytes{w:World}{S:gI}(h:gB t w R S){len:Nat}{xs:List Value}(g:w.ownsRow 0 5 1 v len xs)(B:len<=300)(E:∀b,R b->b<w.heap.size)(y:wC w R S v)(F:∀b,v.ownBlock=some b->t<=b)(G:S.nb<=1000000000):
  Calls prog 89 #[.pointer (some ⟨S.wb,3,none⟩),v] w (JM t w R S v λl p z=>{S with n:=l,bv:=p,nb:=S.nb+1,bc:=z}):=by
 have C:=h.l.l4 (i:=.law 4) U;refine(Gp h.l.az C g B (λe=>y.np _ (.law 0) e U) (λe=>by have:=h.l.hp.ap (.law 4) (.law 0) S.wb e U;grind) (λb e e2=>y.np b (.law 4) e e2) G).bw ?_;rintro w'⟨l,m,p,a,b,c,q⟩;have u:∀b,(b=S.wb\/S.bv.ownBlock=some b\/v.ownBlock=some b)->(∃i,(S.J i).az=some b)\/v.ownBlock=some b:=λb d=>by
  rcases d with rfl |d|d
  .exact .inl ⟨.law 0,U⟩
  .exact .inl ⟨.law 4,d⟩
  grind
 obtain⟨D,k,f,I,J,K,L,A⟩:=sa (o:=4) (S':={S with n:=l,bv:=p,nb:=S.nb+1,bc:=S.bc++[v,a,b,c,.int .u8 m]}) h.l q Y U U U (λi h0 D=>by
  cases i with
  |law j=>match j with
   |0=>grind
   |1=>rfl
   |2=>rfl
   |3=>rfl
   |4=>grind
   |5=>rfl
   |6=>rfl
   |_+7=>rfl
  |iQ j r=>rfl
  |ed j r=>rfl) B E y (λb d=>bR g d)
 refine⟨U,l,p,_,?_,q.kp.mono (λb _ d=>?_),q.kp.mono (λb _ d=>u b d),A⟩
 .refine⟨⟨D,⟨h.l.rd.tab.on k f,h.l.rd.t2.kp k (λN=>N h.l.rd.r2),f _ h.l.rd.r2,λm P=>(h.l.rd.ms m P).on k f,λs u=>(h.l.rd.ss s u).on k f,λx T=>(h.l.rd.is x T).on k f,(h.l.rd.b.on k f).rI C.1 ⟨I,J,K,L⟩,h.l.rd.v.on k f,h.l.rd.k.on k f⟩,h.l.m4,h.l.s4,h.l.i4,q.n0⟩,λi b e=>?_,by have:=q.kp.size;have:=h.le;omega⟩;rcases VE b w.heap.size with W|X
  .grind[up]
  .have :=h.le;omega
 .rcases u b d with⟨i,e⟩|e
  .exact h.up i b e
  .exact F b e
def gB.aaq{w:World}{S:gI}(h:gB t w R S){len:Nat}(g:w.ownsRow 0 38 1 v len F)(B:len<=300)(E:∀b,R b->b<w.heap.size)(y:wC w R S v)(G:∀b,v.ownBlock=some b->t<=b)(I:S.nv<=1000000000):
  Calls prog 91 #[.pointer (some ⟨S.wb,3,none⟩),v] w (JM t w R S v λl p z=>{S with n:=l,vv:=p,nv:=S.nv+1,vc:=z}):=by
 have C:=h.l.l4 (i:=.law 5) U;refine(D9 h.l.az C g B (λe=>y.np _ (.law 0) e U) (λe=>by have:=h.l.hp.ap (.law 5) (.law 0) S.wb e U;grind) (λb e e2=>y.np b (.law 5) e e2) I).bw ?_;rintro w'⟨l,m,p,a,b,c,q⟩;have u:∀b,(b=S.wb\/S.vv.ownBlock=some b\/v.ownBlock=some b)->(∃i,(S.J i).az=some b)\/v.ownBlock=some b:=λb d=>by
  rcases d with rfl |d|d
  .exact .inl ⟨.law 0,U⟩
  .exact .inl ⟨.law 5,d⟩
  grind
 obtain⟨D,k,f,J,K,L,N,A⟩:=sa (o:=5) (S':={S with n:=l,vv:=p,nv:=S.nv+1,vc:=S.vc++[v,a,b,c,.int .u64 m]}) h.l q Y U U U (λi h1 D=>by
  cases i with
  |law j=>match j with
   |0=>grind
   |1=>rfl
   |2=>rfl
   |3=>rfl
   |4=>rfl
   |5=>grind
   |6=>rfl
   |_+7=>rfl
  |iQ j r=>rfl
  |ed j r=>rfl) B E y (λb d=>bR g d)
 refine⟨U,l,p,_,?_,q.kp.mono (λb _ d=>?_),q.kp.mono (λb _ d=>u b d),A⟩
 .refine⟨⟨D,⟨h.l.rd.tab.on k f,h.l.rd.t2.kp k (λP=>P h.l.rd.r2),f _ h.l.rd.r2,λm T=>(h.l.rd.ms m T).on k f,λs u=>(h.l.rd.ss s u).on k f,λx W=>(h.l.rd.is x W).on k f,h.l.rd.b.on k f,(h.l.rd.v.on k f).rI C.1 ⟨J,K,L,N⟩,h.l.rd.k.on k f⟩,h.l.m4,h.l.s4,h.l.i4,q.n0⟩,λi b e=>?_,by have:=q.kp.size;have:=h.le;omega⟩;rcases VE b w.heap.size with X|h0
  .grind[up]
  .have :=h.le;omega
 .rcases u b d with⟨i,e⟩|e
  .exact h.up i b e
  .exact G b e
theorem gB.bG{w:World}{S:gI}(h:gB t w R S){len:Nat}(g:w.ownsRow 0 2 1 v len F)(B:len<=300)(E:∀b,R b->b<w.heap.size)(y:wC w R S v)(G:∀b,v.ownBlock=some b->t<=b)(I:S.nk<=1000000000):
  Calls prog 92 #[.pointer (some ⟨S.wb,3,none⟩),v] w (JM t w R S v λl p z=>{S with n:=l,kv:=p,nk:=S.nk+1,kc:=z}):=by
 have C:=h.l.l4 (i:=.law 6) U;refine(Km h.l.az C g B (λe=>y.np _ (.law 0) e U) (λe=>by have:=h.l.hp.ap (.law 6) (.law 0) S.wb e U;grind) (λb e e2=>y.np b (.law 6) e e2) I).bw ?_;rintro w'⟨l,m,p,a,b,c,q⟩;have u:∀b,(b=S.wb\/S.kv.ownBlock=some b\/v.ownBlock=some b)->(∃i,(S.J i).az=some b)\/v.ownBlock=some b:=λb d=>by
  rcases d with rfl |d|d
  .exact .inl ⟨.law 0,U⟩
  .exact .inl ⟨.law 6,d⟩
  grind
 obtain⟨D,k,f,J,K,L,N,A⟩:=sa (o:=6) (S':={S with n:=l,kv:=p,nk:=S.nk+1,kc:=S.kc++[v,a,b,c,.int .i64 m]}) h.l q Y U U U (λi h1 D=>by
  cases i with
  |law j=>match j with
   |0=>grind
   |1=>rfl
   |2=>rfl
   |3=>rfl
   |4=>rfl
   |5=>rfl
   |6=>grind
   |_+7=>rfl
  |iQ j r=>rfl
  |ed j r=>rfl) B E y (λb d=>bR g d)
 refine⟨U,l,p,_,?_,q.kp.mono (λb _ d=>?_),q.kp.mono (λb _ d=>u b d),A⟩
 .refine⟨⟨D,⟨h.l.rd.tab.on k f,h.l.rd.t2.kp k (λP=>P h.l.rd.r2),f _ h.l.rd.r2,λm T=>(h.l.rd.ms m T).on k f,λs u=>(h.l.rd.ss s u).on k f,λx W=>(h.l.rd.is x W).on k f,h.l.rd.b.on k f,h.l.rd.v.on k f,(h.l.rd.k.on k f).rI C.1 ⟨J,K,L,N⟩⟩,h.l.m4,h.l.s4,h.l.i4,q.n0⟩,λi b e=>?_,by have:=q.kp.size;have:=h.le;omega⟩;rcases VE b w.heap.size with X|h0
  .grind[up]
  .have :=h.le;omega
 .rcases u b d with⟨i,e⟩|e
  .exact h.up i b e
  .exact G b e
theorem Ls.lk{w:Yw}(h:Ls A w R v y):Lk A w v y:=by
 obtain⟨n,a,b,-⟩:=h;exact⟨n,a,b⟩
theorem qg.lk{w:Yw}(h:qg A w R i F):BkL A w i F:=λk d=>by
 obtain⟨l,a,b,c,m,e,f,g,j,n,o,p,q,r⟩:=h k d;grind[Ls.lk]
def Dk.looks{w:Yw}{S:gI}(h:Dk w R S)(a:S.nb<=1000000000)(b:S.nv<=1000000000)(c:S.nk<=1000000000):
  df 44 #[Yv (M ⟨S.wb,3,H⟩)] w (Yt Yk) λd=>Kp no w d:=
 Ko h.az (aw.own (h.l4 (i:=.law 4) U)) h.rd.b.lk (aw.own (h.l4 (i:=.law 5) U)) h.rd.v.lk (aw.own (h.l4 (i:=.law 6) U)) h.rd.k.lk a b c
def Pre(a C:List dQ):Prop:=a.length<=C.length/\ ∀j,j<a.length->C.getD j bD=a.getD j bD
def Fx{c:nt}(a:∀k,k<c.funcs.length->(c.funcs.getD k ([],[])).1.length<=8/\(c.funcs.getD k ([],[])).2.length<=1):∀(k:Nat) {N:Nat} {s b:Bd},fA c k s b->Sz N s->Sz (N+18*k) b
 |0,_,s,b,h,z=>by have e:s=b:=h;grind
 |k+1,N,s,b,⟨d,h,f,g⟩,z=>by
  have:=Fx a k g (uP d z a f).1;grind
def Mj{s a:Bd}(b:s.top.bq=0)(h:kQ s= Yn a):a.ao=(cC s.top.waits s).ao++[⟨11,0,0,0,0⟩]:=by
 unfold kQ at h;split at h
 .cases h
 simp only[b]at h;cases h;rfl
def Td(h:bp D y i= Yn (a,t)):UM D i= Yn (a,t):=by
 grind[bp]
def wf0{q:Nat}{a:List dQ} :Wf ⟨q,a,[],[⟨0,D,0,0,[]⟩],0,Yj⟩:=by
 have b:∀k,(Bd.bk ⟨q,a,[],[⟨0,D,0,0,[]⟩],0,Yj⟩ k).bq=0/\(Bd.bk ⟨q,a,[],[⟨0,D,0,0,[]⟩],0,Yj⟩ k).waits=[]:=λk=>by
  cases k with
  |zero=>exact⟨U,U⟩
  |succ k=>exact⟨U,U⟩
 refine⟨λk j c=>?_,λk d j c=>?_,λk e=>?_,λk d e=>?_,λk e=>(b k).2⟩<;>grind
def Qk{E:Rf.PE}{B:List Ty}{r:List (UInt8×UInt8×Nat)}{b:Ty}{K:List Nd}(he:E.en=E.data.length)(hl:E.data.length<=2000)(h0:b.1.length<=8/\b.2.length<=1)(k8:∀k,k<B.length->(B.getD k ([],[])).1.length<=8/\(B.getD k ([],[])).2.length<=1)(hi:i<=E.en)
  (t:Rf.vQ E B r b i l K a){f:List dQ}(hc:f.length<=18*i):
  ∃c,nD E.data B (r.map λg=>(g.1,g.2.1==1)) b f i= Yn ((⟨b,b.1.length+l.length,f.length⟩,c),a)/\c.length<=18*a/\a<=E.data.length/\b.1.length+l.length<=32/\
   ∀C,Pre c C->Pre f C/\ ∃e,e<C.length/\(C.getD e bD).op=11/\Lay C ⟨b.1++l,B,r⟩ [⟨e,[],b.2⟩] b.2 [] [] Yj f.length K e:=by
 obtain⟨n,j,q,F,k9,e7,G,e8,e9,w0,w1,s0⟩:=t;have h1:E.data.take E.en=E.data:=Ve
 have hu:=Cq Y 2000 hi;rw[h1,k9]at hu;have hU:UM E.data i= Yn (n,j)/\i<=j:=by
  cases p:bp E.data _ i with
  |error e=>
   have c:=hu.err p;cases c
  |ok x=>
   obtain⟨n',d⟩:=x;have c:=hu.ok p;have e1:=Vy Prod.fst c;have e2:=Vy Prod.snd c;cases e2;subst e1;exact⟨Td p,cj ((cz p).2.1)⟩
 obtain⟨hU,w2⟩:=hU;have h2:(E.data.take (j+n)).length=j+n:=Ve
 have u:=Cq (E:={E with en:=j+n}) (i:=j) Y (32-b.1.length) Vc;have L:gF (Rf.uM {E with en:=j+n} (32-b.1.length) (Yn j)) (bp (E.data.take (j+n)) (((32-b.1.length:Nat):Int)+1) j):=by
  grind
 clear u;have h3:=cY (D:=E.data.take (j+n)) (i:=j) (((32-b.1.length:Nat):Int)+1) Y;have X:gN (E.data.take (j+n)) (32-b.1.length) j= Yn (l,q)/\j<=q/\q<=j+n:=by
  unfold gN;cases p:bp _ _ j with
  |error e=>
   have c:=L.err p;rw[c]at G;have d:=Vy Prod.snd G;grind[Rf.dF,qA]
  |ok y=>
   obtain⟨A,J⟩:=y;have d:=h3.ok p;rw[h2]at d;have h4:=(cz p).2.1;rw[L.ok p]at G;have N:=xP (E:={E with en:=j+n}) Y A d;have h:=N;have I:=qz (one:=bP (E.data.take (j+n)) [127,126]) (λi hi=>by grind[eF]) A J d;cases hm:cD _ A J with
   |error e=>
    have c:=h.err hm;grind
   |ok z=>
    obtain⟨R,T⟩:=z;have c:=h.ok hm;simp only at G;rw[c]at G;have e1:=Vy Prod.fst G;have e2:=Vy Prod.snd G;cases e2;subst e1;have S:=I.ok hm;have W:=ES A hm;grind
 obtain⟨X,h4,w3⟩:=X;have w4:=pO X;obtain⟨c,y⟩:=bL (⟨E.data.take (j+n),B,r.map λg=>(g.1,g.2.1==1),b.1++l⟩:nt);have N:c.D.length=j+n:=Ve
 have A:Ag F ⟨b.1++l,B,r⟩ c:=⟨Ve,Ve,by rw[y],by rw[y],by rw[y]⟩;have R0:Rl F ⟨q,f,[],[⟨0,b.2,0,0,[]⟩],0,Yj⟩ [b.2] [] []:=⟨Ve,U,Vc,U,U⟩;obtain⟨J,d,x,h5,h6,p,hx,w5,z,w6,hw,⟨w7,h7,w8⟩,hC⟩:=OZ w1 _ [] A R0 (by rw[w0];rfl) U U wf0;have h8:x=11:=by
  grind
 subst h8;have w9:J+q<=d.i:=h5;obtain⟨e0,h9⟩:=j7 p;rw[N]at h9;have e3:d.af.length=1:=by have:=Vy List.length z;grind
 have R:d.top=d.bk 0:=by grind[Bd.top]
 obtain⟨d1,d2,d3,d4⟩:=tD z 0;rw[<-R]at d1 d2 d3 d4;have k0:d.top.bq=0:=d1;have e4:d.top.aL=b.2:=d4;have R1:=Jl R0 z (xh A p).1 h7;obtain⟨I,g1,g2,g3,g4,g5,g6,g7⟩:=xZ A R1 p Y Ve;have k1:I.af=[]:=by
  have:I.af.length=0:=by have:=Vy List.length g7;grind
  grind
 have S:=oz h6 R1.ne g1;have e5:gw c 2001 ⟨q,f,[],[⟨0,b.2,0,0,[]⟩],0,Yj⟩= Yn I:=by
  have h:=Jf _ (2000-J) _ _ S;rw[show J+1+(2000-J)=2001 by omega]at h;rw[h,show 2000-J=(1999-J)+1 by omega,gw,Vi k1,g3,N,Va Y]
 have k2:=Mj (s:={d with pos:=d.i,i:=a}) k0 g2;have k3:=Fx Ve _ S (sz0 q f b.2 _ hc h0.2);have k4:I.ao.length<=18*a:=cj k3.cd;refine⟨I.ao,?_,k4,Y,Y,λC h=>?_⟩
 .unfold nD;rw[hU];simp only;rw[Va Y,X];grind
 .obtain⟨m1,-,-,-,-,-,m7,m8⟩:=qu d.top.waits {d with pos:=d.i,i:=a};have T:I.ao=(cC d.top.waits {d with pos:=d.i,i:=a}).ao++[⟨11,0,0,0,0⟩]:=k2;have k5:(cC d.top.waits {d with pos:=d.i,i:=a}).ao.length=d.ao.length:=m1;have e6:I.ao.length=d.ao.length+1:=Ve
  have k6:∀j,j<d.ao.length->C.getD j bD=if j∈d.top.waits then {d.ao.getD j bD with goal:=d.ao.length}else d.ao.getD j bD:=λj g=>by
   rw[h.2 j Y,T,RG Y];grind
  have k7:C.getD d.ao.length bD=⟨11,0,0,0,0⟩:=by
   rw[h.2 _ Y,T,<-k5,UF]
  have W:∀k,k≠0->d.bk k=lO:=λk u=>oy d Y
  have hF:Fin d C (yN [⟨d.ao.length,[],b.2⟩]) (λ_=>0):=by
   refine⟨⟨cj h.1,λj g=>?_⟩,λj g hh=>?_,λk j g=>?_,λk e=>?_⟩
   .grind
   .grind
   .by_cases u:k=0
    .subst u;rw[<-R]at g;rw[k6 j (hw.lt 0 j Ve).1,Vi g];rfl
    .rw[W k u]at g;cases g
   .by_cases u:k=0
    .grind
    .rw[W k u]at e;cases e
  obtain⟨e,f2⟩:=hC C [⟨d.ao.length,[],b.2⟩] (λ_=>0) ⟨U,λk C u=>by
   match k,u with
   |0,u=>cases u;exact⟨U,U,nofun⟩⟩ hF
  refine⟨⟨e.le.1,λj g=>?_⟩,d.ao.length,cj h.1,by rw[k7],f2⟩;have e1:=e.le.2 j g;have e2:=e.goal j g (λk=>by
   cases k with
   |zero=>exact⟨by show j∉[];simp,nofun⟩
   |succ k=>exact⟨by show j∉[];simp,nofun⟩)
  grind[xW]
def HW{E:Rf.PE}{f:List Ty}{c:List (UInt8×UInt8×Nat)}(q:E.en=E.data.length)(r:E.data.length<=2000)(o:∀k,k<f.length->(f.getD k ([],[])).1.length<=8/\(f.getD k ([],[])).2.length<=1)
  {l:List Ty}{m:List (List UInt8×List Nd)}(t:Rf.gP E f c l i m a):∀{ao:List dQ},(∀x∈l,x.1.length<=8/\x.2.length<=1)->i<=E.en->ao.length<=18*i->
  ∃b d,dq E.data f (c.map λg=>(g.1,g.2.1==1)) l ao i= Yn ((b,d),a)/\b.length=m.length/\b.map (·.typ)=l/\d.length<=18*a/\a<=E.data.length/\
   ∀C,Pre d C->Pre ao C/\ ∀n,n<b.length-> ∃e,(b.getD n du).aZ=(b.getD n du).typ.1.length+(m.getD n ([],[])).1.length/\(b.getD n du).aZ<=32/\(b.getD n du).typ.2.length<=1/\e<C.length/\(C.getD e bD).op=11/\
    Lay C ⟨(b.getD n du).typ.1++(m.getD n ([],[])).1,f,c⟩ [⟨e,[],(b.getD n du).typ.2⟩] (b.getD n du).typ.2 [] [] Yj (b.getD n du).entry (m.getD n ([],[])).2 e:=by
 induction t with
 |nil=>intro ao _ hi e;exact⟨[],ao,U,U,U,e,Y,λC h=>⟨h,λn k=>by cases k⟩⟩
 | @cons d rest i g s j m a h t ih=>
  intro ao p hi e;have k:=p d Wy;obtain⟨c2,A,u,b3,b4,B⟩:=Qk q r k o hi h e;obtain⟨b,c3,D,v,w,y,z,F⟩:=ih (ao:=c2) (λx n=>p x (WJ _ n)) Y u;refine⟨⟨d,d.1.length+g.length,ao.length⟩::b,c3,?_,by simp[v],by simp[w],y,z,λC n=>?_⟩
  .grind[dq]
  grind
def Ml{E:Rf.PE}(l:E.en=E.data.length)(p:iE E.data= Yn e){q d:List Ty}{f:List (UInt8×UInt8×Nat)}{b:List (List UInt8×List Nd)}(g:Rf.jv E= Yn (q,d,f,i))(m:(Rf.ju E (Yn 0)).2= Yn a)(r:Rf.gP E d f d a b t):
  Fw e (b.map (·.2)) f/\b.length=e.funcs.length/\d=e.funcs.map (·.typ)/\e.globals=f.map (·.2.2)/\i=e.bI/\ ∀n,n<e.funcs.length->(e.funcs.getD n du).aZ=(e.funcs.getD n du).typ.1.length+(b.getD n ([],[])).1.length:=by
 have c:=rV l;rw[p]at c;obtain⟨s,u,v,w,x,o,D,F,y,G,z,-⟩:=c;rw[v]at g;simp only[XM,V6]at g;obtain⟨rfl,rfl,rfl,rfl⟩:=g;rw[y]at m;cases m;have h:∀k,k<(e.funcs.map (·.typ)).length->((e.funcs.map (·.typ)).getD k ([],[])).1.length<=8/\((e.funcs.map (·.typ)).getD k ([],[])).2.length<=1:=λk j=>o _ Ve
 obtain⟨k,c2,j,A,I,J,K,B⟩:=HW l x h r (ao:=[]) o Y Vc;rw[z]at j;simp only[XM,V6]at j;obtain⟨⟨rfl,rfl⟩,rfl⟩:=j;obtain⟨-,L⟩:=B e.ao ⟨cQ,λ_ _=>rfl⟩;have N:∀n,(b.map (·.2)).getD n []=(b.getD n ([],[])).2:=λn=>by
  grind
 refine⟨⟨λn C=>?_,Y⟩,A.symm,U,w,U,λn C=>?_⟩<;>grind
end
section
open Go.RowKit
open Rf (ptr bh eS)
def Dl{w:Yw}(h:MH w R a E)(hp:E.bI<=4)(hg:E.globals.length<=8):
  Yy prog 60 #[ptr t,ptr a] w λr p=>(∃c d gv,r= Yq (ptr c)/\w.heap.size<=c/\p.heap[c]?=M (Yl #[ptr a,ptr t,d,gv] 196)/\p.ownsRow w.heap.size 5 1 d (E.bI*64) (aP (List.replicate (E.bI*64) 0))/\p.ownsRow w.heap.size 38 1 gv E.globals.length (ay (E.globals.map λ(n:Nat)=>((n:Nat):Int)))/\d.ownBlock≠M c/\gv.ownBlock≠M c/\ ∀b,d.ownBlock=M b->gv.ownBlock≠M b)/\Kp no w p:=by
 obtain⟨i0,h5,h6,h7,h8⟩:=info_parts po;obtain⟨tv,fv,gv,e1,x,-,-,I,d⟩:=h;obtain⟨e2,h9,rfl,k0⟩:=I.aJ;have J:wrap64 ((E.bI:Int)*64)=((E.bI*64:Nat):Int):=by unfold wrap64;omega
 have m:=(ae x).1;have k1:=Z d;obtain⟨G,hG⟩:∃G:List Int,G=E.globals.map λ(n:Nat)=>((n:Nat):Int):=⟨_,U⟩
 rw[<-hG];obtain⟨L,N⟩:=bL E.globals.length;rw[<-N]at m k0 hg⊢;clear d;obtain⟨f,P⟩:=bL E.bI;rw[<-P]at hp J m⊢;clear P;go_enter func60,ntmps60;go_wp2_with(at_make;refine wpList_make_full _ U _ _ 25 U w.heap.size 5 i0 (V Ys 0) 1 underlying25 h5 h6 h7 _ _ _ _ (f*64) U U (by first |rfl |(push_cast;rfl)) (by first |rfl |(push_cast;rfl)) ?c1 ?c2 cQ ?_);case c1=>rw[h8];omega
 case c2=>unfold maxLen;omega
 intro v y T;have e3:=Kp.nZ T;obtain⟨e4,e5,k2⟩:=aA y;cases k2;clear T;go_wp2_with fail;have X:=ai v (Yl #[ptr a,ptr t,Q (M ⟨w.heap.size,0,H⟩) (f*64) (f*64),Q H 0 0] 196);have h0:(v.alloc (Yl #[ptr a,ptr t,Q (M ⟨w.heap.size,0,H⟩) (f*64) (f*64),Q H 0 0] 196)).heap.size=v.heap.size+1:=Vc
 have k3:Kp no v (v.alloc (Yl #[ptr a,ptr t,Q (M ⟨w.heap.size,0,H⟩) (f*64) (f*64),Q H 0 0] 196)):=oO;generalize v.alloc (Yl #[ptr a,ptr t,Q (M ⟨w.heap.size,0,H⟩) (f*64) (f*64),Q H 0 0] 196)=e0 at *;have e6:w.heap.size<v.heap.size:=bR y U;obtain⟨c,h1⟩:=bL v.heap.size;rw[<-h1]at X h0⊢;have e7:w.heap.size<c:=Y
 have k4:=k3.own y bW;have K2:=e3.trans k3;clear h1 k3 m J;go_loopw [6] (λi wr=> ∃(k:Nat) (F:Option Addr) (j:Nat),k<=L/\i= V O k/\wr.heap[c]?=M (Yl #[ptr a,ptr t,Q (M ⟨w.heap.size,0,H⟩) (f*64) (f*64),Q F k j] 196)/\wr.ownsRow (c+1) 38 1 (Q F k j) k (ay (G.take k))/\Kp (one c) e0 wr) (λi _=>L - (intOf i).toNat);case atStart=>exact⟨0,H,0,Y,U,X,World.ownsRow_nil _ _ _ _,iR⟩
 case round=>
  obtain⟨k,F,j,hk,rfl,l,i,kr⟩:=hrel;have z:Kp no w wr:=K2.comp kr bW (λb r e=>by unfold one at e;omega);have A:=z.az x id;rw[<-N]at A;obtain⟨m,-⟩:=ae A;obtain⟨k5,k6⟩:=ae l;have e8:=au l;by_cases h2:k<L
  .obtain⟨aG,oG,cG,hv,-,d⟩:=I.get (k1 k (by rw[<-N];exact h2));rw[<-VR]at d;have h3:G.getD k 0=((E.globals.getD k 0:Nat):Int):=by
    rw[hG,Vl,VN,Vl];cases E.globals[k]? <;>rfl
   rw[<-h3]at d;have h4:k<G.length:=by rw[hG,VH,<-N];exact h2
   have k7:ay (G.take (k+1))=ay (G.take k)++[V Yr (G.getD k 0)]:=by
    rw[List.take_succ_eq_append_getElem h4,Vl,Vj h4];unfold ay;rw[Wb];rfl
   generalize G.getD k 0=g at *;injection hv with k8 k9 w0
   subst k8;obtain⟨S,n⟩:=bL (λp=>(∀q,p.cell? ⟨c,q,H⟩=#[ptr a,ptr t,Q (M ⟨w.heap.size,0,H⟩) (f*64) (f*64),Q F k j][q]?)/\(∀q,p.frozen? ⟨c,q,H⟩=Yj)/\(∀q,p.cell? ⟨a,q,H⟩=#[tv,fv,Q (M ⟨aG,oG,H⟩) L h9,V O E.bI][q]?)/\p.cell? ⟨aG,oG+k*3+2,H⟩=M (V Yr g):Yw->Prop);have B:∀W,Kp (λb=>(Value.slice F k j).ownBlock=M b) wr W->S W:=λW p=>by
    rw[n];have C:=aK i;refine⟨(ae (p.az l (λe=>cj (C _ e)))).1,(ae (p.az l (λe=>cj (C _ e)))).2,(ae (p.az A (λe=>?_))).1,p.cell (z.cell d id) (λe=>?_)⟩
    .have :c+1<=a:=C _ e;have:=au x;omega
    .have :c+1<=aG:=C _ e;have:aG<w.heap.size:=World.block_lt_of_cell? w _ d;omega
   have w1:=Z n;obtain⟨i8,w2,w3,w4,w5⟩:=info_parts uC;clear n d k5 k6 h3 k9 w0;go_wp2_with fail;clear m;refine rj 17 18 (S) ?hS λhS=>?_
   case hS=>exact B _ fL
   have n:=w1.out;subst n;refine tj 0 ?_;iterate 12 refine tn ?_
   refine oj 13 λK W=>?_
   go_simp;have s:Kp no wr ((wr.alloc (Yl #[V Yr g] 38)).drew):=MV;have w6:=(Rf.aw.newRow wr #[V Yr g] 38).kp ((Kp.refl no _).drew) bW;generalize(wr.alloc (Yl #[V Yr g] 38)).drew=s0 at *;refine W _ _ (B _ s.any) (λhS=>?_);refine oj 14 λK W=>?_
   refine bJ _ Vg _ _ _ Vg (c+1) 38 i8 _ 1 8 underlying53 w2 w3 w4 w5 U Y _ k (ay (G.take k)) Vg (s.own i bW) (Q (M ⟨wr.heap.size,0,H⟩) 1 1) 1 [V Yr g] Vg w6 ?g2 ?g3 ?g4 ?g5 ?_;case g2=>intro u hu;simp at hu;subst hu;rfl
   case g3=>unfold maxLen;omega
   case g4=>omega
   case g5=>have:=s.size;omega
   intro v8 w8 D w7 e9;have w9:=(s.any).bS w7 (λb r=> Yo r);refine W _ _ (B _ w9) (λhS=>?_);obtain⟨p,q,rfl⟩:=aA D;refine tj 15 ?_;refine tj 16 ?_;refine ej 17 λK W=>?_
   go_simp;refine W _ _ ?_;refine dj ?_;have C:=aK i;have W:=heap_setCell (o:=3) (w9.az l (λe=>cj (C _ e))) (Q p (k+1) q);have kF:Kp (one c) e0 (w8.setCell ⟨c,3,H⟩ (Q p (k+1) q)):=(kr.comp w9 bW (λb r e=>rq (C b e) h0)).bK _ _;have K:=((Kp.refl (one c) w8).bK 3 (Q p (k+1) q)).own D (λb r e=>by have:=aK D b r;unfold one at e;omega);rw[<-k7]at K;generalize w8.setCell ⟨c,3,H⟩ (Q p (k+1) q)=s1 at *;go_wp2_with fail;go_roundw;case rel=>exact⟨k+1,p,q,Y,by go_num,W,K,kF⟩
   case measure=>simp[intOf];omega
  .obtain rfl :k=L:=Y
   have g:G.take k=G:=Wu (by rw[hG,VH,<-N];omega);rw[g]at i;have n:=kr.own k4 (λb r e=>by have:w.heap.size=b:=Vr r;unfold one at e;omega);go_wp2_with fail;go_ret;refine⟨⟨c,Q (M ⟨w.heap.size,0,H⟩) (f*64) (f*64),Q F k j,U,?_⟩,z⟩;refine⟨Y,l,?_,jw i Y,?_,?_,?_⟩
   .have :=n;rw[toList_madeCells_one]at this;rw[yy];exact this
   .intro e;have:w.heap.size=c:=Vr e;omega
   .intro e;have:=aK i _ e;omega
   .intro b r e;have:w.heap.size=b:=Vr r;have:=aK i _ e;omega
end
section
open Go.RowKit
open Rf (ptr bh)
theorem iP.of{a:List (UInt8×UInt8×Nat)}(h:∀g∈a,dh g.1 (g.2.2:Int)):iP ((a.map (·.2.2)).map λ(n:Nat)=>((n:Nat):Int)) (a.map (·.1)):=by
 induction a with
 |nil=>trivial
 |cons g a ih=>exact⟨h g (Wy ..),ih λx b=>h x (WJ _ b)⟩
def MI{c:List (UInt8×UInt8×Nat)}(h:lR D i= Yn (c.map vX,t)):c.length<=8/\ ∀g∈c,dh g.1 (g.2.2:Int):=by
 unfold lR at h;split at h
 .cases h
 .rename_i n t d;have e:=(cz d).1;obtain⟨a,b⟩:=ji PA n _ _ _ h;grind[vX,List.mem_map_of_mem]
abbrev yP(w w':Yw):Nat->Prop:=λb=>w.heap.size<=b/\b<w'.heap.size
def TM{w w':Yw}(y:iE D= Yn e){T c:List Ty}{d:List (UInt8×UInt8×Nat)}{yb base:Nat}{gv:Yx}(L:Rf.jv (Rf.FU D v)= Yn (T,c,d,i))(h:Rf.dy w' o yb base u z gv i c d)(N:w.heap.size<=yb)(k0:w.heap.size<=base)(W:∀b,gv.ownBlock=M b->w.heap.size<=b/\b<w'.heap.size)
  {i0 q:Nat}{j:List (List UInt8×List Nd)}(X:(Rf.ju (Rf.FU D v) (Yn 0)).2= Yn i0)(f:Rf.gP (Rf.FU D v) c d c i0 j q)(hf:Rf.Ju w w' o z c j)(x:Nat):
  tI w' (yP w w') yb e (j.map (·.2))/\MH w' (yP w w') yb e/\MdP ⟨x,yb,e,j.map (·.2),d⟩:=by
 obtain⟨mt,e1,e2,e3,e4,e5⟩:=Ml (E:=Rf.FU D v) U y L X f;have l:=rV (E:=Rf.FU D v) U;rw[show(Rf.FU D v).data=D from U,y]at l;obtain⟨h0,h1,A,q2,q3,q4,i5,i6,-,-,-,i3,i4,q5,q6⟩:=l;rw[L]at A;simp only[XM,V6]at A;obtain⟨rfl,-,rfl,-⟩:=A;obtain⟨g1,g2⟩:=MI q5;have h2:=(cz q6).1;have h3:e.funcs.length=c.length:=Ve
 obtain⟨h4,m,hc⟩:=h.ny;have ty:∀n,n<e.funcs.length->c[n]?=M (e.funcs.getD n du).typ:=λn a=>by
  grind
 have B:e.funcs.length<=16:=cj h.B9;have C:e.Ok:=⟨Y,by grind[Fw.ao],Pu y⟩;have F:e.funcs.length<=1000000:=Y
 have G:e.bI<=4:=Y
 have I:e.globals.length<=8:=Ve
 refine⟨⟨⟨N,au h.az⟩,u,z,gv,_,h.az,?_⟩,⟨u,z,gv,?_⟩,⟨mt,C,⟨F,λn=>?_⟩,B,λt g=>q4 t g,G,I,λk P=>⟨?_,?_,P⟩⟩⟩
 .obtain⟨ad,t,s⟩:=aA m;have J:=(aw.own m).aJ;obtain⟨h5,h6,g,h7⟩:=J;rw[s]at g;injection g with e6 e7 e8
  refine⟨ad,t,Ve,Y,λn a=>?_⟩;obtain⟨pv,rv,c1,c2,c3,-,c5,-,-,c8⟩:=hc n _ (ty n a);have k:j[n]?=M (j.getD n ([],[])):=Ve
  obtain⟨a,h8,lv,K,d1,d2,d3,d4,d5,d6⟩:=hf n _ _ k;rw[s]at d1;cases d1;obtain⟨_,_,_,p,-,R⟩:=(aw.own m).get c1;obtain⟨_,_,_,r,-,S⟩:=(aw.own m).get c2;rw[s]at p r;cases p;cases r;rw[Vv]at R S;have h9:=m.lt a (by rw[s];rfl);refine⟨a,pv,rv,lv,K,_,U,⟨Y,Y⟩,R,S,d2,d3,c3,λb f=>Ve,c5,λb f=>Ve,d4,λb f=>(d5 b f).1,?_,?_⟩
  .grind
  .rw[Vl,VN,k];exact d6.kp (Kp.refl no w') bW (λb f=>f.1)
 .obtain⟨a,g,p⟩:=h.gat.row;refine⟨a,by grind[Rf.dy.az],⟨N,au h.az⟩,W,Ve,λk P=>?_⟩;grind
 .grind[du,Fw.fn]
 .show iP (e.globals.map λ(n:Nat)=>((n:Nat):Int)) ((d.map λg=>(g.1,g.2.1==1)).map (·.1))
  rw[e3,show(d.map λg=>(g.1,g.2.1==1)).map (·.1)=d.map (·.1)by simp];grind[iP.of]
 grind
def eR(B:Nat)(w:Yw)(S:gI)(P:gI->Prop)(r:Ending)(w':Yw):Prop:=
 r= Yq (Yt Yk)/\ ∃S',gB B w' no S'/\Kp (hi B) w w'/\S'.wb=S.wb/\(S'.nb<=S.nb+2/\S'.nv<=S.nv+1/\S'.nk<=S.nk+1)/\P S'
section
variable{w w':World}{X:Nat->Prop}{S S':gI}
def Dk.grow{t:TypeId}{news:List Yx}{C:Array Yx}(h:Dk w X S)(J:Ix->Prop)(D:o≠0)(k:Kp (λb=>b=S.wb\/v.ownBlock=M b) w w')
  (e1:S.J (.law o)=.row t 2 v a F)(n:S'.J (.law 0)=.dT S.wb C 90)(c:w'.heap[S.wb]?=M (Yl C 90))(p:S'.J (.law o)=.row t 2 u (a+1) news)(s:w'.ownsRow 0 t 2 u (a+1) news)(q:Mv w v u)
  (x:∀i,i≠ .law 0->i≠ .law o-> ¬J i->S'.J i=S.J i)(E:∀i,J i->i≠ .law 0/\i≠ .law o)(G:∀i,J i->(S'.J i).At w')(I:∀i b,J i->(S'.J i).az=M b->X b/\ ∀j,(S.J j).az≠M b)(K:∀i j b,J i->J j->(S'.J i).az=M b->(S'.J j).az=M b->i=j)(L:∀b,X b->b<w.heap.size):
  Hw w' S'.J/\Kp (fy (RO w X S.J)) w w'/\(∀b,RO w X S.J b->RO w' no S'.J b)/\ ∀i b,(S'.J i).az=M b->(∃j,(S.J j).az=M b)\/X b\/w.heap.size<=b:=by
 have r:(S.J (.law 0)).az=M S.wb:=rfl;have d:(S.J (.law o)).az=v.ownBlock:=by rw[e1];rfl
 have y:(S'.J (.law 0)).az=M S.wb:=by rw[n];rfl
 have g:(S'.J (.law o)).az=u.ownBlock:=by rw[p];rfl
 have l:S.wb<w.heap.size:=au h.az;have z:u.ownBlock≠M S.wb:=λe=>by
  have:=h.hp.ap _ _ S.wb (d.trans (q.old e l)) r;grind
 have A:∀i b,J i->(S'.J i).az=M b->u.ownBlock=M b->False:=λi b hi m B=>by
  grind[Mv.old]
 have f:∀i b,(S'.J i).az=M b->(∃j,(S.J j).az=M b)\/X b\/w.heap.size<=b:=λi b e=>by
  by_cases B:i=.law 0
  .grind
  by_cases m:i=.law o<;>grind[Mv.old]
 refine⟨h.hp.yU (λi=>i=.law 0\/i=.law o\/J i) k (λb i c hi=>?_) (λi hi=>x i (λe=>hi (Yo e)) (λe=>hi (Yp (Yo e))) (λe=>hi (Yp (Yp e)))) ?_ ?_ ?_,RO.kp k (λb e c=>?_),RO.on k.size f (λb c=>c.elim),f⟩
 .rcases c with rfl |c
  .exact Yo (h.hp.ap _ _ _ hi r)
  .exact Yp (Yo (h.hp.ap _ _ _ hi (d.trans c)))
 .rintro i (rfl |rfl |B)
  .rw[n];exact c
  .rw[p];exact s
  grind
 .rintro i b (rfl |rfl |B) c
  .grind
  .rw[g]at c;rcases VE b w.heap.size with e|m
   .exact Yo ⟨_,Yp (Yo U),d.trans (q.old c e)⟩
   .exact Yp (λj=>h.hp.new m j)
  grind
 .grind
 grind
theorem Dk.fresh(h:Dk w no S)(k:Kp no w w')(b:w.heap.size<=a)(c:a<w'.heap.size):RO w' no S.J a:=⟨c,λh=>h,λi=>h.hp.new b i⟩
end
def FH:∃i z,Tryz.prog.info? 144=M i/\i.zero=M z/\i.size=2/\i.bytes=16/\z.cells.size=2:=nT Vf
def gB.ac9{w w':Yw}{S:gI}(h:gB a w no S){x:Md}(k:Kp (λb=>b=S.wb\/S.mv.ownBlock=M b) w w')
  (l:w'.heap[S.wb]?=M (Yl #[v,S.sv,S.iv,V O S.n,S.bv,S.vv,S.kv,Yt S.tr] 90))(n:w'.ownsRow 0 144 2 v (S.eZ.length+1) ((S.eZ.flatMap λm=>[aj m.x,ptr m.y])++[aj x.x,ptr x.y]))(mv:Mv w S.mv v)(g:Di w (RO w no S.J) x)(t:S.eZ.length<4):
  gB a w' no {S with eZ:=S.eZ++[x],mv:=v}:=by
 obtain⟨p,c,d,q⟩:=h.l.grow (S':={S with eZ:=S.eZ++[x],mv:=v}) (o:=1) (λ_=>False) Vb k U U l (by show Wt.row _ _ _ _ _=Wt.row _ _ _ _ _;simp) n mv (λi e f _=>by
   cases i with
   |law j=>match j with
    |0=>grind
    |1=>grind
    |2=>rfl
    |3=>rfl
    |4=>rfl
    |5=>rfl
    |6=>rfl
    |_+7=>rfl
   |iQ j r=>rfl
   |ed j r=>rfl) (λi h=>h.elim) (λi h=>h.elim) (λi b h=>h.elim) (λi j b h=>h.elim) (λb h=>h.elim)
 refine⟨⟨p,⟨h.l.rd.tab.on c d,h.l.rd.t2.kp c (λe=>e h.l.rd.r2),d _ h.l.rd.r2,λm f=>?_,λs e=>(h.l.rd.ss s e).on c d,λx g=>(h.l.rd.is x g).on c d,h.l.rd.b.on c d,h.l.rd.v.on c d,h.l.rd.k.on c d⟩,Ve,h.l.s4,h.l.i4,h.l.n0⟩,λi b e=>?_,rq k.size h.le⟩
 .rcases VS.1 f with f|f
  .exact(h.l.rd.ms m f).on c d
  grind[Di.on]
 .rcases q i b e with⟨j,e⟩|e|e
  .exact h.up j b e
  .exact e.elim
  .have :=h.le;omega
def gB.Ir{w w':Yw}{S:gI}{P:gI->Prop}(h:gB i w no S)(k:Kp no w w')(a:P S):eR i w S P (Yq (Yt Yk)) w':=⟨U,S,h.kp k (λ_ h=>h.elim),k.any,U,⟨Y,Y,Y⟩,a⟩
def Iu{w:World}{S:gI}(h:gB t w no S)(X:Rf.eJ w v D)(p:∀b,Rf.B7 v D=some b->b<w.heap.size)(hd:D.length<=2000000):
  Calls prog 57 #[aj S.wb,v] w (eR t w S λa=> ∀f,iE D=.ok f->S.eZ.length<4->a.eZ.length=S.eZ.length+1):=by
 have j:=rV (E:=Rf.FU D v) U;obtain⟨s8,s9,rfl,x0⟩:=X.aJ;have c:=Z h;have w9:=Z j;have e0:=au h.l.az;obtain⟨C,n⟩:=bL S.wb;rw[<-n]at e0⊢;clear h j;change Hid _ at p n;replace X:=Z X;go_enter func57,ntmps57;go_wp2_with fail;refine(NH X hd).mono ?_;rintro r w5⟨⟨rfl,x1,s,F⟩,k1⟩;have h9:∀q,q<D.length->w5.cell? ⟨w.heap.size,0+q,none⟩=some (.int .u8 (D.getD q 0).toNat):=λq a=>by
  rw[Vv,(ae s).1,<-WU,F,VN,VC a,Vj a,Vl,Vj a];rfl
 have h0:aq w5 (.slice _ D.length (D.length+2)) D:=aq.mk Y h9;have e1:=au s;have H1:=Z (c.kp (X':=no) k1 (λb h=>h.elim));clear h9;change Hid _ at s F k1;replace h0:=Z h0;go_wp2_with fail;have k:=QG h0 (λb d=>by cases d;exact e1) H1.l.aap;have j:=w9.out;cases hM:iE D with
 |error K=>
  obtain⟨e,a⟩:=K;rw[hM]at k;rw[hM]at j;have L:Hid (Rf.jv _=.error (e,a)):=Z j;clear j;replace k:=Z k;change Hid _ at hM;refine k.mono ?_;rintro r w6⟨G,x⟩;have u:r=.returned (.tuple #[.pointer none,.int .i64 e,.int .i64 a]):=G;subst u;clear G;have y:=x.az s id;have l:=X.kp (k1.trans x) bW;have h1:=Z (k1.trans x);have e2:=x.size;clear x;replace l:=Z l;change Hid _ at y;go_wp2_with fail;refine(D6 hd y F l (λe=>cj (p _ e))).bw ?_;rintro w7 k3;have g:Kp no w w7:=h1.comp k3 bW (λb d e=>by unfold one at e;omega);have m:=X.kp g bW;have e3:=g.size;clear k3;change Hid _ at g;replace m:=Z m;go_wp2_with fail;refine(Rf.E4 m (λb d=>cj (p b d))).mono ?_;rintro r z⟨k4,I⟩;rw[L.out]at I;rcases I with⟨e',a',J,A,rfl⟩|⟨ts,fs,gs,e4,pb,mb,e5,tv,fv,gv,J,-⟩
  .cases J;have N:(e !=0)=true:=by simpa using A
   have P:(e==0)=false:=by simpa using A
   have K4:=Z (g.trans k4);clear k4 A;go_wp2_with fail;go_ret;exact c.Ir K4 (λf B=>by rw[hM.out]at B;cases B)
  .cases J
 |ok f=>
  rw[hM]at k;rw[hM]at j;obtain⟨x2,x3,k0,-⟩:=j;change Hid _ at k0;replace k:=Z k;change Hid _ at hM;refine k.mono ?_;rintro r w6⟨G,x⟩;obtain⟨mb,hr,h2⟩:=G;subst hr;replace h2:=Z h2;have y:=x.az s id;have l:=X.kp (k1.trans x) bW;have h1:=Z (k1.trans x);have e2:=x.size;clear x;replace l:=Z l;change Hid _ at y;go_wp2_with fail;refine(D6 hd y F l (λe=>cj (p _ e))).bw ?_;rintro w7 k3;have g:Kp no w w7:=h1.comp k3 bW (λb d e=>by unfold one at e;omega);have m:=X.kp g bW;have x4:=k3.size;have e3:=g.size;replace k3:=Z k3;change Hid _ at g;replace m:=Z m;go_wp2_with fail;refine(Rf.E4 m (λb d=>cj (p b d))).mono ?_;rintro r z⟨k4,I⟩;rcases I with⟨e',a',J,-⟩|⟨ts,fs,gs,e4,pb,yb,e5,tv,fv,gv,J,hr,k2,e6,e7,k5,i0,q,xs,hh,-,k6,k7⟩
  .rw[k0.out]at J;cases J
  .subst hr;obtain⟨m1,m2,m3⟩:=TM hM J k2 e6 e7 k5 hh k6 k7 mb;have K4:=Z (g.trans k4);have x5:=k4.size;have HF:=Z (c.kp (X':=no) K4 (λb h=>h.elim));have K:∀b,(w5.heap.size<=b/\b<w6.heap.size)\/(w7.heap.size<=b/\b<z.heap.size)->RO z no S.J b:=λb d=>c.l.fresh K4 Y Y
   have k8:dy z (RO z no S.J) mb 123 f:=by
    have a:Kp (fy (abC w5 w6)) w6 z:=(k3.mono (λb _ e u=>by unfold one at e;have:=u.1;omega)).trans (k4.any);exact(h2.kp a).le' (λb d=>K b (.inl d))
   have HX:Hid (Di z _ _):=Z ⟨k8,m1.le (λb d=>K b (.inr d)),m2.on iR (λb d=>K b (.inr d)),m3⟩;have a:=HF.l.az;have N:=HF.l.l4 (i:=.law 1) U;obtain⟨h3,h4,P⟩:=aA N;unfold hJ at a;rw[P,<-n.out]at a;rw[P]at N;obtain⟨k9,e8⟩:=ae a;have w0:=Z a;have w1:=Z N;have h5:=Z P;have e9:=HF.l.m4;obtain⟨L,hL⟩:=bL S.eZ.length;rw[<-hL]at k9 e9 w1 h5 w0;clear k4 k2 K k8 N a P J m1 m2 m3 k5 k6 k7 hh;change Hid _ at hL;obtain⟨j1,z1,s0,s1,s2,s3,s4⟩:=FH;by_cases s7:L<4
   .go_wp2_with(at_builtin;refine bj _ U _ _ 81 U 0 144 j1 z1 2 16 underlying81 s0 s1 s2 s3 s4 Vb _ _ _ U (w1.alloc _) _ 1 [aj mb,aj yb] U (Gn _ _ _) ?m2 ?m3 ?m4 (VB _) ?_);case m2=>intro u hu;simp at hu;rcases hu with rfl |rfl <;>rfl
    case m3=>unfold maxLen;omega
    case m4=>omega
    intro v5 w8 R w2 w3;have T:Kp _ z w8:=((Kp.refl _ z).alloc _).bS w2 (λb d=>.inl d);obtain⟨A,B,rfl⟩:=aA R;have W:(Value.slice h3 L h4).ownBlock≠some C:=λe=>by
     have:=HF.l.hp.ap (.law 1) (.law 0) C (by show S.mv.ownBlock=some C;rw[h5.out];exact e) (by show some S.wb=some C;rw[n.out]);injection this with this
     omega
    have h6:=T.az w0 W;obtain⟨x6,x7⟩:=ae h6;clear w2 k9 e8;replace W:=Z W;change Hid _ at w3;replace T:=Z T;replace R:=Z R;change Hid _ at h6;go_wp2_with fail;go_ret;have kz:Kp _ w8 (w8.setCell ⟨C,0,none⟩ (.slice A (L+1) B)):=(Kp.refl _ _).bK _ _;have kF:Kp (λb=>b=C\/(Value.slice h3 L h4).ownBlock=some b) z (w8.setCell ⟨C,0,none⟩ (.slice A (L+1) B)):=(T.mono (λb _ h=>.inr h)).bE (.inl U) _ _;have w4:=heap_setCell (o:=0) h6 (.slice A (L+1) B);have h7:Mv z (.slice h3 L h4) (.slice A (L+1) B):=by rcases w3.out with e|e;exact .inl e;exact .inr ⟨_,e,Vc⟩
    have s5:(Value.slice A (L+1) B).ownBlock≠some C:=λe=>W (h7.old e Y)
    have h8:=kz.own R (λb d e=>s5 (by rw[d,show b=C from e]));rw[n.out]at kF w4 h8;rw[<-h5.out]at kF h7;rw[hL.out]at h8;have s6:=HF.ac9 kF w4 (by rw[hL.out];exact h8) h7 HX (by rw[<-hL.out];exact s7);rw[n.out];refine⟨U,_,s6,(K4.any).trans (kF.mono (λb _ d=>?_)),U,⟨Vc,Vc,Vc⟩,λb x8 _=>Vc⟩;rcases d with rfl |d
    .exact c.up (.law 0) _ U
    .exact c.up (.law 1) _ d
   .go_wp2_with fail;go_ret;exact c.Ir K4 (λb _ h=>absurd (hL.out▸h) s7)
theorem ud{b:Nat}(h:(Value.slice (M ⟨i,o,H⟩) a t).ownBlock=M b):b=i:=(Vr h).symm
def QH{w:Yw}(h:dy w R i 123 E)(c:y<0\/(E.funcs.length:Int)<=y):
  df 41 #[aj i,V O y] w (Yu #[Q H 0 0,Q H 0 0,V O 4]) λb=>Kp no w b:=by
 have a:=qK h;by_cases d:y<0
 .go_enter func41,ntmps41;go_wp2_with fail;go_ret3;exact⟨U,iR⟩
 .have e:(E.funcs.length:Int)<=y:=Y
  go_enter func41,ntmps41;go_wp2_with fail;refine a.bw ?_;rintro f b;rw[b];go_wp2_with fail;go_ret3;exact⟨U,iR⟩
def qW{w w1:Yw}{Y:Nat->Prop}{S:gI}(h:gB a w Y S)(d:∀b,v.ownBlock=M b->R b/\w.heap.size<=b):wC w1 R S v:=⟨λb c=>(d b c).1,λb i c=>h.l.hp.new (d b c).2 i⟩
theorem gB.hO{w:Yw}{X:Nat->Prop}{S:gI}{w0 w5:Yw}{g2 c1 n2 c2:Nat}(h:gB a w0 no S)(m:w0.heap.size<=w.heap.size)(p:w0.heap.size<=t)(f:w0.heap.size<=g2)(g:t≠g2)(d:g2<w.heap.size)(r:X g2)(k:Kp (λq=>(∃i,(S.J i).az=M q)\/(Value.slice (M ⟨t,0,H⟩) o c1).ownBlock=M q) w w5)(j:∀i b,(({S with n:=y,bv:=v,nb:=S.nb+1,bc:=F}:gI).J i).az=M b->b<w.heap.size->(S.J i).az=M b){xs:List Yx}(l:w.ownsRow 0 5 1 (Q (M ⟨g2,0,H⟩) n2 c2) n2 xs):
  w5.ownsRow 0 5 1 (Q (M ⟨g2,0,H⟩) n2 c2) n2 xs/\wC w5 (less X (Q (M ⟨t,0,H⟩) o c1)) {S with n:=y,bv:=v,nb:=S.nb+1,bc:=F} (Q (M ⟨g2,0,H⟩) n2 c2):=by
 refine⟨k.own l (λb c e=>?_),λb c=>?_,λb i c e=>?_⟩
 .obtain rfl :=ud c;rcases e with⟨i,e⟩|e
  .exact h.l.hp.new f i e
  grind[ud]
 .obtain rfl :=ud c;grind[ud]
 .obtain rfl :=ud c;exact h.l.hp.new f i (j i _ e d)
def gB.ue{W:Yw}{T:gI}(b:gB i W no T)(c:T.nb<=1000000000):Yy prog 89 #[Yv (M ⟨T.wb,3,H⟩),Q H 0 0] W (JM i W no T (Q H 0 0) λd e a=>{T with n:=d,bv:=e,nb:=T.nb+1,bc:=a}):=
 b.bytes (len:=0) (xs:=[]) (World.ownsRow_nil _ _ _ _) Y (λ_ h=>h.elim) ⟨(λ_ h=>by cases h),(λ_ _ h=>by cases h)⟩ (λ_ h=>by cases h) c
def MJ{w:Yw}{S:gI}(h:gB i w no S){x:Md}(P:Di w (RO w no S.J) x)(f:Int)(hc:S.nb<=100000000):
  Yy prog 59 #[aj S.wb,.agg #[aj x.x,aj x.y],V O f] w (eR i w S λ_=>True):=by
 obtain⟨-,tv,fv,gv,k9,u,w0,w1,rfl,w2,R⟩:=P.y;have w3:=P.p.n16;have h8:=Z P.p.l;have a:=Z h;have HM:=Z P.x;have h9:=au h.l.az;obtain⟨wb,c⟩:=bL S.wb;rw[<-c]at h9⊢;have w4:=h.le;clear h P;change Hid _ at u R c;go_enter func59,ntmps59;go_wp2_with fail;have k1:Kp no w (w.alloc (Yl #[aj x.x,aj x.y] 144)):=oO;have v:=ai w (Yl #[aj x.x,aj x.y] 144);generalize w.alloc (Yl #[aj x.x,aj x.y] 144)=w7 at *;have w8:=au v;have T:=Z (HM.kp (k1.any:Kp (fy (RO w no S.J)) w w7));change Hid _ at v k1;by_cases D:0<=f/\f<(x.f.funcs.length:Int)
 .obtain⟨k0,w9⟩:=D;obtain⟨q,rfl⟩:=WN k0;have hq:q<x.f.funcs.length:=Y
  obtain⟨y,E⟩:∃y,x.f.funcs[q]?=M y:=⟨_,Vj hq⟩;have k:x.f.funcs.getD q du=y:=by rw[Vl,E];rfl
  have W:(x.f.funcs.map (·.typ))[q]?=M y.typ:=by rw[VN,E];rfl
  obtain⟨e0,e1⟩:=h8 y.typ (Vw W);obtain⟨aF,pv,rv,lv,e2,ll,e3,-,c0,c1,-,-,l,-,m,-⟩:=R q hq;rw[k]at l m;cases e3;obtain⟨ap,cp,rfl,-⟩:=l.aJ;obtain⟨ar,cr,rfl,-⟩:=m.aJ;have z:=QF T hq Y (by rw[k];omega) (by rw[k];omega);rw[k]at z;clear k W E;replace z:=Z z;change Hid _ at c0 c1;replace m:=Z m;replace l:=Z l;refine z.mono ?_;rintro r e4⟨⟨g1,g2,rfl,e5,e6,n,A⟩,F⟩;have s:=Z (k1.trans F);have e7:=NB.lt n g1 U;have e8:=NB.lt A g2 U;have G:=F.az v id;obtain⟨B,-⟩:=ae G;obtain⟨C,-⟩:=ae (s.az u id);have I:=s.aY c0;have J:=s.aY c1;clear F;change Hid _ at G;replace A:=Z A;replace n:=Z n;go_wp2_with fail;refine(mO (NB.at n) (l.kp s bW) Y).bw ?_;rintro s2 N;have k2:decide (y.typ.1=y.typ.1)=true:=Vc
  rw[k2];have K3:=Z (s.trans N);have h0:=N.az G id;have k3:=Z (N.own n bW);have h1:=Z (N.own A bW);have e9:=N.size;clear B C I J N;obtain⟨B,-⟩:=ae h0;obtain⟨C,-⟩:=ae (K3.az u id);have I:=K3.aY c0;have J:=K3.aY c1;clear h0;go_wp2_with fail;refine(mO (NB.at h1) (m.kp K3 bW) Y).bw ?_;rintro s3 k4;have k5:decide (y.typ.2=y.typ.2)=true:=Vc
  rw[k5];have K4:=Z (K3.trans k4);have k6:=Z (k4.own k3 bW);have k7:=Z (k4.own h1 bW);have s0:=k4.size;have h2:=Z (a.kp (X':=λb=>b=g1\/b=g2) K4 (λb h=> Yp Y));clear k4 B C I J;obtain⟨o,-⟩:=ae h2.l.az;rw[<-c.out]at o;go_wp2_with fail;rw[c.out];refine(h2.bytes (jw k6 Y) Y (λb j=>Y) (qW a (λb j=>by obtain rfl :=ud j;exact⟨Yo U,Y⟩)) (λb j=>by obtain rfl :=ud j;omega) Y).bw ?_;rintro w5⟨n5,h3,h4,t,d,k8,h5⟩;have K:=gB.hO (X:=λb=>b=g1\/b=g2) a Y Y Y Y Y (Yp U) k8 h5 (jw k7 Y);have s1:=k8.size;have e:=t.l.az;obtain⟨g,-⟩:=ae e;rw[<-c.out]at g⊢;clear k8 o h5 e;change Hid _ at t K d;go_wp2_with fail;rw[c.out];refine(t.bytes K.1 Y (λb j=>cj j.1) K.2 (λb j=>by obtain rfl :=ud j;omega) (by show S.nb+1<=_;omega)).bw ?_;rintro w6⟨n6,h6,h7,L,j,-⟩;have p:=Z (L.kp (X':=no) (Kp.refl no _) (λb h=>h.elim));clear L g;change Hid _ at j;go_wp2_with fail;go_ret;exact⟨U,_,p,(K4.any.trans d).trans j,U,⟨cQ,VI _ _,VI _ _⟩,trivial⟩
 .have k:f<0\/(x.f.funcs.length:Int)<=f:=Y
  have l:=QH T k;replace l:=Z l;refine l.bw ?_;rintro e4 F;have s:=Z (k1.trans F);obtain⟨B,-⟩:=ae (F.az v id);obtain⟨C,-⟩:=ae (s.az u id);have m:=Z (a.kp (X':=no) s (λb h=>h.elim));obtain⟨o,-⟩:=ae m.l.az;rw[<-c.out]at o;clear F;by_cases q:f<0
  .clear D k;go_wp2_with fail;rw[c.out];refine(gB.ue m Y).bw ?_;rintro w5⟨n5,h3,h4,t,d,-⟩;have n:=Z (t.kp (X':=no) (Kp.refl no _) (λb h=>h.elim));have e:=t.l.az;obtain⟨g,-⟩:=ae e;rw[<-c.out]at g⊢;clear t o e;change Hid _ at d;go_wp2_with fail;rw[c.out];refine(gB.ue n (by show S.nb+1<=_;omega)).bw ?_;rintro w6⟨n6,h6,h7,L,j,-⟩;have p:=Z (L.kp (X':=no) (Kp.refl no _) (λb h=>h.elim));clear L g;change Hid _ at j;go_wp2_with fail;go_ret;exact⟨U,_,p,(s.any.trans d).trans j,U,⟨cQ,VI _ _,VI _ _⟩,trivial⟩
  .have r:(x.f.funcs.length:Int)<=f:=Y
   clear D k;go_wp2_with fail;rw[c.out];refine(gB.ue m Y).bw ?_;rintro w5⟨n5,h3,h4,t,d,-⟩;have n:=Z (t.kp (X':=no) (Kp.refl no _) (λb h=>h.elim));have e:=t.l.az;obtain⟨g,-⟩:=ae e;rw[<-c.out]at g⊢;go_wp2_with fail;rw[c.out];refine(gB.ue n (by show S.nb+1<=_;omega)).bw ?_;rintro w6⟨n6,h6,h7,L,j,-⟩;have p:=Z (L.kp (X':=no) (Kp.refl no _) (λb h=>h.elim));go_wp2_with fail;go_ret;exact⟨U,_,p,(s.any.trans d).trans j,U,⟨cQ,VI _ _,VI _ _⟩,trivial⟩
def JN(w:Yw)(x:In)(s:St):Nat->Prop:=λb=>b<w.heap.size/\b≠x.xb/\b≠x.sb/\x.mv.ownBlock≠M b/\x.gv.ownBlock≠M b/\s.kv.ownBlock≠M b/\s.vv.ownBlock≠M b
abbrev dE(x:In)(ro:Nat->Prop):ew:=⟨0,x.xb,x.sb,x.m.y,0,ro,x.m.f,x.m.B⟩
abbrev dS(x:In)(s:St):Rs:=⟨[],[],0,0,0,x.mem,x.gl,s.st⟩
structure Hs(S:gI)(j:Nat)(x:In)(s:St):Prop where
 ii:S.ed[j]?=M x
 ss:S.iG[x.s]?=M s
 tb:s.tb=x.tb
 sb:s.sb=x.sb
def dI(j t:Nat):Nat->Ix
 |1=>.ed j 1
 |2=>.iQ t 1
 |3=>.ed j 2
 |4=>.ed j 3
 |5=>.iQ t 2
 |6=>.iQ t 3
 |_=>.law 7
theorem aar(b:1<=a/\a<=6)(c:1<=o/\o<=6)(h:dI i t a=dI i t o):a=o:=by
 rcases(show a=1\/a=2\/a=3\/a=4\/a=5\/a=6 by omega)with rfl |rfl |rfl |rfl |rfl |rfl <;>rcases(show o=1\/o=2\/o=3\/o=4\/o=5\/o=6 by omega)with rfl |rfl |rfl |rfl |rfl |rfl <;>first |rfl |grind[dI]
section
variable{B:Nat}{X:Nat->Prop}{w w1 w2:World}{S:gI}{j:Nat}{x:In}{s:St}
def Hs.iI(h:Hs S j x s)(r:Nat):S.J (.ed j r)=wS x r:=by simp only[gI.J,h.ii]
def Hs.sI(h:Hs S j x s)(r:Nat):S.J (.iQ x.s r)=Dj s r:=by simp only[gI.J,h.ss]
def gB.inst(h:gB B w X S)(a:S.ed[j]?=M x):∃s,Hs S j x s/\rZ w (RO w X S.J) S.iG x/\zu w (RO w X S.J) s:=by
 have b:=h.l.rd.is x (Vw a);obtain⟨s,c,d,e⟩:=b.s;exact⟨s,⟨a,c,d,e⟩,b,h.l.rd.ss s (Vw c)⟩
theorem Hs.wP(h:Hs S j x s)(a:Nat->Prop)(i:Nat):(l0 (dE x a) (dS x s) x.mv x.gv s.kv s.vv i).az=(S.J (dI j x.s i)).az/\((S.J (dI j x.s i)).At w->(l0 (dE x a) (dS x s) x.mv x.gv s.kv s.vv i).At w):=by
 by_cases hi:1<=i/\i<=6
 .rcases(show i=1\/i=2\/i=3\/i=4\/i=5\/i=6 by omega)with rfl |rfl |rfl |rfl |rfl |rfl
  .rw[show dI j x.s 1=.ed j 1 from U,h.iI];exact⟨U,λh=>h⟩
  .rw[show dI j x.s 2=.iQ x.s 1 from U,h.sI];exact⟨by show M x.sb=M s.sb;rw[h.sb],λq=>by have b:w.heap[s.sb]?=_:=q;rw[h.sb]at b;exact b⟩
  .rw[show dI j x.s 3=.ed j 2 from U,h.iI];exact⟨U,λq=>by show w.ownsRow 0 _ 1 x.mv (aP x.mem).length _;rw[show(aP x.mem).length=x.mem.length by simp[aP]];exact q⟩
  .rw[show dI j x.s 4=.ed j 3 from U,h.iI];exact⟨U,λq=>by show w.ownsRow 0 _ 1 x.gv (ay x.gl).length _;rw[jt];exact q⟩
  .rw[show dI j x.s 5=.iQ x.s 2 from U,h.sI];exact⟨U,λq=>by show w.ownsRow 0 _ 1 s.kv (aQ _).length _;rw[jq,VH];exact q⟩
  .rw[show dI j x.s 6=.iQ x.s 3 from U,h.sI];exact⟨U,λq=>by show w.ownsRow 0 _ 1 s.vv (aQ _).length _;rw[jq,VH];exact q⟩
 .have e:l0 (dE x a) (dS x s) x.mv x.gv s.kv s.vv i=.none:=by
   unfold l0 kN;grind
  have e2:S.J (dI j x.s i)=.none:=by
   have:dI j x.s i=.law 7:=by
    match i,hi with
    |0,_=>rfl
    |1,hi=>omega
    |2,hi=>omega
    |3,hi=>omega
    |4,hi=>omega
    |5,hi=>omega
    |6,hi=>omega
    |_+7,_=>rfl
   rw[this];rfl
  rw[e,e2];exact⟨U,λ_=>trivial⟩
theorem Hs.six(h:Hs S j x s)(b: ¬JN w1 x s a)(k:a<w1.heap.size):∃i,1<=i/\i<=6/\(S.J (dI j x.s i)).az=M a:=by
 unfold JN at b;by_cases c:a=x.xb
 .exact⟨1,Y,Y,by rw[show dI j x.s 1=.ed j 1 from U,h.iI,c];rfl⟩
 by_cases d:a=x.sb
 .exact⟨2,Y,Y,by rw[show dI j x.s 2=.iQ x.s 1 from U,h.sI,d];show M s.sb=_;rw[h.sb]⟩
 by_cases e:x.mv.ownBlock=M a
 .exact⟨3,Y,Y,by rw[show dI j x.s 3=.ed j 2 from U,h.iI];exact e⟩
 by_cases f:x.gv.ownBlock=M a
 .exact⟨4,Y,Y,by rw[show dI j x.s 4=.ed j 3 from U,h.iI];exact f⟩
 by_cases g:s.kv.ownBlock=M a
 .exact⟨5,Y,Y,by rw[show dI j x.s 5=.iQ x.s 2 from U,h.sI];exact g⟩
 by_cases i:s.vv.ownBlock=M a
 .exact⟨6,Y,Y,by rw[show dI j x.s 6=.iQ x.s 3 from U,h.sI];exact i⟩
 grind
theorem Hs.se(h:Hs S j x s)(b:a<w1.heap.size)(c:∀i,1<=i->i<=6->(S.J (dI j x.s i)).az≠M a):JN w1 x s a:=by
 grind[six]
theorem Hs.TN(h:Hs S j x s)(b:(S.J (dI j x.s i)).az=M a): ¬JN w1 x s a:=by
 rintro⟨-,c,d,e,f,g,k⟩;match i,b with
 |1,b=>rw[show dI j x.s 1=.ed j 1 from U,h.iI]at b;exact c (Vr b).symm
 |2,b=>rw[show dI j x.s 2=.iQ x.s 1 from U,h.sI]at b;exact d (by rw[<-h.sb];exact(Vr b).symm)
 |3,b=>rw[show dI j x.s 3=.ed j 2 from U,h.iI]at b;exact e b
 |4,b=>rw[show dI j x.s 4=.ed j 3 from U,h.iI]at b;exact f b
 |5,b=>rw[show dI j x.s 5=.iQ x.s 2 from U,h.sI]at b;exact g b
 |6,b=>rw[show dI j x.s 6=.iQ x.s 3 from U,h.sI]at b;exact k b
 |0,b=>cases b
 |_+7,b=>cases b
theorem Hs.ib(h:Hs S j x s):(S.J (.ed j 0)).az=M x.ib:=by rw[h.iI];rfl
theorem Hs.FV(h:Hs S j x s):(S.J (.iQ x.s 0)).az=M x.tb:=by rw[h.sI,<-h.tb];rfl
def Dm{j k:Nat}(hi:1<=i/\i<=6):dI j t i≠ .ed k 0/\dI j t i≠ .iQ k 0:=by
 rcases(show i=1\/i=2\/i=3\/i=4\/i=5\/i=6 by omega)with rfl |rfl |rfl |rfl |rfl |rfl <;>simp[dI]
def gB.qx(h:gB B w X S)(f:Hs S j x s)(m:rZ w (RO w X S.J) S.iG x)(k:Kp (yE x.ib x.tb) w w1):QX (dE x (RO w X S.J)) (JN w1 x s) w1 (dS x s):=by
 have n:∀b,RO w X S.J b->b≠x.ib/\b≠x.tb:=λb d=>⟨λe=>d.2.2 (.ed j 0) (by rw[f.ib,e]),λe=>d.2.2 (.iQ x.s 0) (by rw[f.FV,e])⟩
 refine⟨m.m.y.kp (k.mono (λb _ d a=>Ve)),λb d=>f.se (Vm d.1 k.size) (λi _ _=>d.2.2 _),x.mv,x.gv,s.kv,s.vv,λi=>?_,λa b q g l=>?_,λi b d c=>?_,λb d=>d.1⟩
 .by_cases hi:1<=i/\i<=6
  .refine(f.wP _ i).2 ((h.l.hp.dY _).kp k (λb d e=>?_));rcases e with e|e
   .exact(Dm (j:=j) (t:=x.s) (k:=j) hi).1 (h.l.hp.ap _ _ b d (by rw[f.ib,e]))
   .exact(Dm (j:=j) (t:=x.s) (k:=x.s) hi).2 (h.l.hp.ap _ _ b d (by rw[f.FV,e]))
  .have e:l0 (dE x (RO w X S.J)) (dS x s) x.mv x.gv s.kv s.vv i=.none:=by
    unfold l0 kN;grind
   rw[e];trivial
 .rw[(f.wP (w:=w) _ a).1]at g;rw[(f.wP (w:=w) _ b).1]at l;have e:=h.l.hp.ap _ _ q g l;have b:∀c,(S.J (dI j x.s c)).az=M q->1<=c/\c<=6:=λc a=>by
   match c,a with
   |0,a=>cases a
   |1,_=>omega
   |2,_=>omega
   |3,_=>omega
   |4,_=>omega
   |5,_=>omega
   |6,_=>omega
   |_+7,a=>cases a
  grind[aar]
 .rw[(f.wP (w:=w) _ i).1]at d;grind[Hs.TN]
end
def qh{b c:Type}(f:b->List c){y z:b}(e:f y=f z):∀{l:List b} {k:Nat},l[k]?=M z->(l.set k y).flatMap f=l.flatMap f
 |[],_,h=>by simp at h
 |a::l,0,h=>by
  grind
 |a::l,k+1,h=>by
  simp at h;simp[qh f e h]
def abY(hi:1<=i/\i<=6):(∃r,dI a t i=.ed a r)\/ ∃r,dI a t i=.iQ t r:=by
 rcases(show i=1\/i=2\/i=3\/i=4\/i=5\/i=6 by omega)with rfl |rfl |rfl |rfl |rfl |rfl
 .exact Yo ⟨1,U⟩
 .exact Yp ⟨1,U⟩
 .exact Yo ⟨2,U⟩
 .exact Yo ⟨3,U⟩
 .exact Yp ⟨2,U⟩
 .exact Yp ⟨3,U⟩
def rZ.iG{w:Yw}{l b:List St}{y:In}(h:rZ w R l y)(c:∀(k:Nat) (s:St),l[k]?=M s-> ∃a:St,b[k]?=M a/\a.tb=s.tb/\a.sb=s.sb):rZ w R b y:=by
 obtain⟨s,d,e,f⟩:=h.s;obtain⟨a,g,i,j⟩:=c _ s d;exact⟨h.m,h.pm,h.pmR,h.pg,h.pgR,h.Uo,a,g,i.trans e,j.trans f⟩
section
variable{B:Nat}{X:Nat->Prop}{w w1 w2:World}{S:gI}{j:Nat}{x:In}{s:St}
theorem gB.after(h:gB B w X S)(l:Hs S j x s)(hx:rZ w (RO w X S.J) S.iG x)(k1:Kp (yE x.ib x.tb) w w1){p':Option Nat}{G:List (Int×Int)}{g:Rs}
  (pI:w1.heap[x.ib]?=M (mI x.tb x.m.x v u))(pS:w1.heap[x.tb]?=M (Yl #[V .i32 0,V .u32 0,.map p'] 110))
  (pm:aw w1 v 1 g.mem.length (aP g.mem))(pg:aw w1 u 1 g.gl.length (ay g.gl))(mp:nP w1 p' G)
  (W:∀b,v.ownBlock=M b->RO w X S.J b\/yP w w1 b)(h0:∀b,u.ownBlock=M b->RO w X S.J b\/yP w w1 b)(np:∀b,p'=M b->RO w X S.J b\/yP w w1 b)
  (P:Kp (iM (JN w1 x s)) w1 w2)(q:QX (dE x (RO w X S.J)) (JN w1 x s) w2 g)(e3:lY g.st G)(e4:g.st.length<=8)(h5:Iq x.m g.mem g.gl)(hX:∀b,X b->b<w.heap.size):
  ∃f,gB B w2 X f/\Kp (hi B) w w2/\f.wb=S.wb/\f.tr=S.tr/\f.nb=S.nb/\f.nv=S.nv/\f.nk=S.nk/\ ∀i b,(f.J i).az=M b->(∃R,(S.J R).az=M b)\/w1.heap.size<=b:=by
 obtain⟨-,-,C,D,E,F,hp⟩:=q;obtain⟨x',o⟩:=bL ({x with pm:=v,pg:=u,mv:=C,gv:=D,mem:=g.mem,gl:=g.gl}:In);obtain⟨sN,t⟩:=bL ({s with p:=p',bG:=G,st:=g.st,kv:=E,vv:=F}:St);obtain⟨f,d⟩:=bL ({S with ed:=S.ed.set j x',iG:=S.iG.set x.s sN}:gI);have jl:=(VA.1 l.ii).1;have sl:=(VA.1 l.ss).1;have iI:∀r,f.J (.ed j r)=wS x' r:=λr=>by
  grind[gI.J]
 have sI:∀r,f.J (.iQ x.s r)=Dj sN r:=λr=>by
  grind[gI.J]
 have oI:∀i,¬((∃r,i=.ed j r)\/ ∃r,i=.iQ x.s r)->f.J i=S.J i:=λi hi=>by
  cases i with
  |law n=>
   show aao f n=aao S n
   rw[d];match n with
   |2=>
    show Wt.row _ _ _ _ _=Wt.row _ _ _ _ _
    rw[VW,qh _ (by rw[t]) l.ss]
   |3=>
    show Wt.row _ _ _ _ _=Wt.row _ _ _ _ _
    rw[VW,qh _ (by rw[o]) l.ii]
   |0=>rfl
   |1=>rfl
   |4=>rfl
   |5=>rfl
   |6=>rfl
   |_+7=>rfl
  |iQ n r=>
   grind[gI.J]
  |ed n r=>
   grind[gI.J]
 have I:=k1.size;have h6:=P.size;have h1:∀i b,(S.J i).az=M b->b<w.heap.size:=λi b a=>(h.l.hp.dY i).lt a
 have kk:Kp (λb=>b=x.ib\/b=x.tb\/ ∃i,1<=i/\i<=6/\(S.J _).az=M b) w w2:=(k1.mono (λb _ a=>a.elim Yo (λe=> Yp (Yo e)))).trans (P.mono (λb a z=> Yp (Yp (l.six z a))));have J:∀b,RO w X S.J b\/yP w w1 b->JN w1 x s b:=λb a=>by
  rcases a with a|a
  .exact l.se (Vm a.1 I) (λi _ _=>a.2.2 _)
  grind[Hs.se]
 have K:JN w1 x s x.ib/\JN w1 x s x.tb:=by
  refine⟨l.se (Vm (h1 _ _ l.ib) I) (λi k m e=>(Dm ⟨k,m⟩).1 (h.l.hp.ap _ _ _ e l.ib)),l.se (Vm (h1 _ _ l.FV) I) (λi k m e=>(Dm ⟨k,m⟩).2 (h.l.hp.ap _ _ _ e l.FV))⟩
 have nb:∀c b,(l0 _ g C D E F c).az=M b->(∃i,1<=i/\i<=6/\(S.J _).az=M b)\/w1.heap.size<=b:=λc b a=>by
  rcases VE b w1.heap.size with n|A
  .exact Yo (l.six (hp.low c b a) n)
  omega
 have dp:∀c,1<=c/\c<=6->(f.J (dI j x.s c)).az=(l0 (dE x (RO w X S.J)) g C D E F c).az/\(f.J (dI j x.s c)).At w2:=λc n=>by
  have y:=hp.dY c;rcases(show c=1\/c=2\/c=3\/c=4\/c=5\/c=6 by omega)with rfl |rfl |rfl |rfl |rfl |rfl
  .rw[show dI j x.s 1=.ed j 1 from U,iI,o];exact⟨U,y⟩
  .rw[show dI j x.s 2=.iQ x.s 1 from U,sI,t];exact⟨by show M s.sb=M x.sb;rw[l.sb],by show w2.heap[s.sb]?=_;rw[l.sb];exact y⟩
  .rw[show dI j x.s 3=.ed j 2 from U,iI,o];exact⟨U,by show w2.ownsRow 0 _ 1 C g.mem.length _;rw[show g.mem.length=(aP g.mem).length by simp[aP]];exact y⟩
  .rw[show dI j x.s 4=.ed j 3 from U,iI,o];exact⟨U,by show w2.ownsRow 0 _ 1 D g.gl.length _;rw[show g.gl.length=(ay g.gl).length by rw[jt]];exact y⟩
  .rw[show dI j x.s 5=.iQ x.s 2 from U,sI,t];exact⟨U,by show w2.ownsRow 0 _ 1 E g.st.length _;rw[show g.st.length=(aQ (g.st.map (·.1))).length by grind[jq]];exact y⟩
  .rw[show dI j x.s 6=.iQ x.s 3 from U,sI,t];exact⟨U,by show w2.ownsRow 0 _ 1 F g.st.length _;rw[show g.st.length=(aQ (g.st.map (·.2))).length by grind[jq]];exact y⟩
 have h2:(f.J (.ed j 0)).az=M x.ib/\(f.J (.ed j 0)).At w2:=by
  rw[iI,o];exact⟨U,P.az pI (λz=>z K.1)⟩
 have h3:(f.J (.iQ x.s 0)).az=M x.tb/\(f.J (.iQ x.s 0)).At w2:=by
  rw[sI,t];exact⟨by show M s.tb=_;rw[l.tb],by show w2.heap[s.tb]?=_;grind[Hs.tb,Kp.az]⟩
 have cs:∀i,((∃r,i=.ed j r)\/ ∃r,i=.iQ x.s r)->i=.ed j 0\/i=.iQ x.s 0\/f.J i=.none\/ ∃c,(1<=c/\c<=6)/\i=dI j x.s c:=by
  rintro i (⟨r,rfl⟩|⟨r,rfl⟩)
  .match r with
   |0=>simp
   |1=>exact Yp (Yp (Yp ⟨1,Y,U⟩))
   |2=>exact Yp (Yp (Yp ⟨3,Y,U⟩))
   |3=>exact Yp (Yp (Yp ⟨4,Y,U⟩))
   |r+4=>exact Yp (Yp (Yo (iI _)))
  .match r with
   |0=>simp
   |1=>exact Yp (Yp (Yp ⟨2,Y,U⟩))
   |2=>exact Yp (Yp (Yp ⟨5,Y,U⟩))
   |3=>exact Yp (Yp (Yp ⟨6,Y,U⟩))
   |r+4=>exact Yp (Yp (Yo (sI _)))
 have L:∀i b,(f.J i).az=M b->(∃R,(S.J R).az=M b)\/w1.heap.size<=b:=λi b a=>by
  by_cases y:(∃r,i=.ed j r)\/ ∃r,i=.iQ x.s r
  .rcases cs i y with rfl |rfl |e|⟨c,n,rfl⟩
   .grind[Hs.ib]
   .grind[Hs.FV]
   .rw[e]at a;cases a
   grind
  grind
 have hw:Hw w2 f.J:=by
  refine h.l.hp.yU _ kk (λb i a hi=>?_) oI (λi hi=>?_) (λi b hi a=>?_) (λi R b hi y k m=>?_)
  .rcases a with e|e|⟨c,c1,c2,e⟩
   .exact Yo ⟨0,h.l.hp.ap _ _ _ hi (by rw[l.ib,e])⟩
   .exact Yp ⟨0,h.l.hp.ap _ _ _ hi (by rw[l.FV,e])⟩
   .rw[h.l.hp.ap _ _ _ hi e];simp_all[abY]
  .rcases cs i hi with rfl |rfl |e|⟨c,n,rfl⟩
   .exact h2.2
   .exact h3.2
   .rw[e];trivial
   grind
  .rcases cs i hi with rfl |rfl |e|⟨c,n,rfl⟩
   .rw[h2.1]at a;exact Yo ⟨_,Yo ⟨0,U⟩,l.ib.trans a⟩
   .rw[h3.1]at a;exact Yo ⟨_,Yp ⟨0,U⟩,l.FV.trans a⟩
   .rw[e]at a;cases a
   .rw[(dp c n).1]at a;rcases nb c b a with⟨i,N,T,e⟩|A
    .exact Yo ⟨_,abY ⟨N,T⟩,e⟩
    grind
  .have N:∀c,1<=c/\c<=6->(f.J _).az=M x.ib->False:=λc n e=>by
    rw[(dp c n).1]at e;exact hp.low c _ e K.1
   have h4:∀c,1<=c/\c<=6->(f.J _).az=M x.tb->False:=λc n e=>by
    rw[(dp c n).1]at e;exact hp.low c _ e K.2
   have h7:x.ib≠x.tb:=λe=>Ve
   rcases cs i hi with rfl |rfl |e|⟨c,n,rfl⟩<;>rcases cs R y with rfl |rfl |T|⟨c',A,rfl⟩
   .rfl
   .grind
   .rw[T]at m;cases m
   .grind
   .grind
   .rfl
   .rw[T]at m;cases m
   .grind
   .rw[e]at k;cases k
   .rw[e]at k;cases k
   .rw[e]at k;cases k
   .rw[e]at k;cases k
   .grind
   .grind
   .rw[T]at m;cases m
   .rw[(dp c n).1]at k;rw[(dp c' A).1]at m;rw[hp.ap _ _ _ k m]
 have kR:Kp (fy (RO w X S.J)) w w2:=RO.kp kk (λb _ a=>by
  grind)
 have n:∀b,RO w X S.J b->RO w2 X f.J b:=RO.on kk.size (λi b e=>(L i b e).imp id (λe=> Yp Y)) (λb h=> Yo h);have N:∀b,RO w X S.J b\/yP w w1 b->RO w2 X f.J b:=λb a=>by
  rcases a with a|a
  .grind
  .refine⟨Y,λh=>Ve,λi e=>?_⟩;grind
 have h4:∀(k:Nat) (y:St),S.iG[k]?=M y-> ∃y':St,f.iG[k]?=M y'/\y'.tb=y.tb/\y'.sb=y.sb:=λk y A=>by
  rw[d];by_cases m:x.s=k
  .grind[Hs.ss]
  grind
 refine⟨f,⟨⟨hw,⟨h.l.rd.tab.on kR n,h.l.rd.t2.kp kR (λz=>z h.l.rd.r2),n _ h.l.rd.r2,?_,?_,?_,?_,?_,?_⟩,?_,?_,?_,?_⟩,λi b e=>?_,cj h.le⟩,kk.mono (λb _ a=>?_),by rw[d],by rw[d],by rw[d],by rw[d],by rw[d],L⟩
 .intro m k;rw[d]at k;exact(h.l.rd.ms m k).on kR n
 .intro y A;rw[d]at A;rcases VZ A with A|rfl
  .exact(h.l.rd.ss y A).on kR n
  .rw[t];exact⟨mp.kp P (λb a z=>z (J b (np b a))),λb a=>N b (np b a),e3,e4⟩
 .intro y A;rw[d]at A;rcases VZ A with A|rfl
  .exact((h.l.rd.is y A).on kR n).iG h4
  .rw[o];obtain⟨y',k,m,q3⟩:=h4 _ _ l.ss;exact⟨hx.m.on kR n,aw.kp pm P (λb a z=>z (J b (W b a))),λb a=>N b (W b a),aw.kp pg P (λb a z=>z (J b (h0 b a))),λb a=>N b (h0 b a),h5,y',k,m.trans l.tb,q3.trans l.sb⟩
 .rw[d];rw[d]at n;exact h.l.rd.b.on kR n
 .rw[d];rw[d]at n;exact h.l.rd.v.on kR n
 .rw[d];rw[d]at n;exact h.l.rd.k.on kR n
 .rw[d];exact h.l.m4
 .rw[d];show(S.iG.set x.s sN).length<=4;rw[VW];exact h.l.s4
 .rw[d];show(S.ed.set j x').length<=4;rw[VW];exact h.l.i4
 .rw[d];exact h.l.n0
 .rcases L i b e with⟨R,T⟩|T
  .exact h.up _ _ T
  .have :=h.le;omega
 .rcases a with e|e|⟨c,-,-,e⟩
  .exact h.up _ _ (by rw[l.ib,e])
  .exact h.up _ _ (by rw[l.FV,e])
  .exact h.up _ _ e
end
def iP.ada(b:I.length=D.length)(c:∀i,i<D.length->kV I D i=Yk)(d:∀v∈I,0<=v/\v<18446744073709551616):iP I D:=by
 induction I generalizing D with
 |nil=>
  cases D with
  |nil=>trivial
  |cons p D=>simp at b
 |cons a I ih=>
  cases D with
  |nil=>simp at b
  |cons p D=>
   refine⟨?_,ih Ve (λi hi=>?_) (λv e=>d v (WJ _ e))⟩
   .grind[dh,kV]
   .have :=c (i+1) Ve;grind[kV]
def QI(d:I.length=D.length)(h:oV I D=Yj):∃j,j<I.length/\kY D I j/\ ∀i,i<j-> ¬kY D I i:=by
 have e:∀i,kV I D i=Yj↔kY D I i:=λi=>by
  unfold kV kY;simp only[Bool.not_eq_false',Vo,WI,Vx];constructor
  .simp_all
  .rintro⟨b,c⟩;exact⟨Vp.1 b,c⟩
 have a:∃j,j<I.length/\kY D I j:=by
  unfold oV at h;grind
 obtain⟨j,b,c⟩:=a;induction j using Nat.strongRecOn with
 |ind j ih=>
  grind
def Ur(x:In)(s:St)(n aC:Int)(args:List Int)(e t v u:Int)(mem:List UInt8)(gl:List Int)(bG:List (Int×Int)):Prop:=
 ∀(W:Yw) (ro:Nat->Prop) (av:Yx),eX W ro x.ib x.tb x.m.x x.pm x.pg x.m.f x.mem x.gl->dr W x.tb s.p s.bG->nz W->x.ib≠2->x.tb≠2->jP W av args->(∀b,av.ownBlock=M b->b≠x.ib/\b≠x.tb)->
  df 27 #[aj x.ib,V O n,av,V O aC] W (mU e t v u) λw'=>Kp (yE x.ib x.tb) W w'/\ ∃pm pg p,eX w' ro x.ib x.tb x.m.x pm pg x.m.f mem gl/\dr w' x.tb p bG/\(∀b,pm.ownBlock=M b->x.pm.ownBlock=M b\/yP W w' b)/\(∀b,pg.ownBlock=M b->x.pg.ownBlock=M b\/yP W w' b)/\ ∀b,p=M b->s.p=M b\/yP W w' b
def Us(x:In)(s:St)(n aC:Int)(args:List Int)(e t v u:Int)(mem:List UInt8)(gl:List Int)(bG:List (Int×Int)):Prop:=
 ∀(W:Yw) (ro lo:Nat->Prop) (av:Yx),QX (dE x ro) lo W (dS x s)->jU W av args->(∀b,Ic av args=M b->lo b)->
  df 90 #[ptr x.xb,V O n,av,V O aC] W (.agg #[V O e,V O t,V Yr v,V O u]) λw'=>Kp (iM lo) W w'/\ ∃s':Rs,QX (dE x ro) lo w' s'/\s'.mem=mem/\s'.gl=gl/\lY s'.st bG/\s'.st.length<=8
def TP{x:In}{s:St}(l:MdP x.m)(hf:Iq x.m x.mem x.gl)(he:lY s.st s.bG)(h8:s.st.length<=8)(n aC:Int)(hr:∀v∈I,0<=v/\v<18446744073709551616):
  ∃e t v u a c b,Ur x s n aC I e t v u a c b/\Us x s n aC I e t v u a c b/\Iq x.m a c:=by
 have w:∀k,k<x.m.f.funcs.length->(x.m.f.funcs.getD k du).typ.1.length<=(x.m.f.funcs.getD k du).aZ/\(x.m.f.funcs.getD k du).aZ<=1000:=λk _=>(l.fn.2 k).2
 have h3:=l.n16;have y:=hf s.bG (by grind[lY.len]);have J:x.gl.length<=1000000:=by
  have C:=y.gl.len;have p:=l.st [] Vc;have d:=p.gl.len;grind[MdP.gn]
 have A:∀g:Nat,gA x.m.f n I aC=((g+1:Nat):Int)->(∀(W:Yw) (o z:Nat->Prop) (f:Yx),QX (dE x o) z W (dS x s)->jU W f I->Yy prog 90 #[ptr x.xb,V O n,f,V O aC] W (QC W ((g+1:Nat):Int)))->
   ∃e t v u a c b,Ur x s n aC I e t v u a c b/\Us x s n aC I e t v u a c b/\Iq x.m a c:=λg C p=>by
  refine⟨((g+1:Nat):Int),0,0,0,x.mem,x.gl,s.bG,λW o f K hS X hi B d c=>?_,λW o z f h d c=>?_,hf⟩
  .refine(Dh K hS Y d cQ c (λk r=>Vk (w k r).1 (w k r).2) g C).mono ?_;grind
  .refine(p W o z f h d).bw ?_;rintro w' k;exact⟨U,k.any,dS x s,h.quiet k,U,U,he,h8⟩
 by_cases c1:n<0\/(x.m.f.funcs.length:Int)<=n
 .exact A 3 (by simp_all[gA]) (λW o z f h _=>TI h c1 f aC)
 .obtain⟨q,rfl⟩:∃q:Nat,n=q:=⟨n.toNat,Y⟩;have D:q<x.m.f.funcs.length:=Y
  by_cases c2:oV I (x.m.f.funcs.getD q du).typ.1=Yj
  .refine A 4 (by simp_all[gA]) (λW o z f h d=>?_);by_cases u:I.length=(x.m.f.funcs.getD q du).typ.1.length
   .obtain⟨j,a,g,i⟩:=QI u c2;exact QD h l.fn D d u Y i (Yo ⟨a,g,U⟩)
   .obtain⟨g,a,rfl,-⟩:=d.aJ;exact TJ h l.fn D u aC
  .simp only[WE]at c2;have j:=c2;unfold oV at j;simp only[Vo,Vx,Xl,List.mem_range]at j;obtain⟨u,L⟩:=j;have h0:∀i,i<I.length-> ¬kY (x.m.f.funcs.getD q du).typ.1 I i:=λi hi a=>by
    have:=L i Y;unfold kV at this;obtain⟨g,E⟩:=a;rw[show(x.m.f.funcs.getD q du).typ.1.getD i 0=127 from Vp.1 g]at this;grind
   by_cases c3:aC<0\/100000<aC
   .exact A 5 (by simp_all[gA]) (λW o z f h d=>QD h l.fn D d u cQ h0 (Yp ⟨U,c3,U⟩))
   .obtain⟨F,rfl⟩:∃F:Nat,aC=F:=⟨aC.toNat,Y⟩;have hF:F<=100000:=Y
    have N:gA x.m.f q I F=0:=by simp_all[gA,Va]
    obtain⟨g,t,h4,E,P,h5,v,s',R,h1,h2⟩:=ME l.mt D (iP.ada u L hr) hF y;have S:Df x.m.f q I ⟨[],[],1,F,x.mem,x.gl,s.bG⟩=mc0 x.m.f q I F x.mem x.gl s.bG:=by grind[Df,mc0]
    have h6:=y.mem.2;by_cases B:t=0
    .obtain⟨q1,q2,q3,q4,q5,T⟩:=h2 B;have h7:E.gl.length<=1000000:=by
      have C:=y.gl.len;have p:=T.gl.len;grind
     have h9:=T.mem.2;have k0:=T.bG;refine⟨0,t,v,((F-E.aC:Nat):Int),E.mem,E.gl,E.bG,λW o f K hS X hi C d c=>?_,λW o z f h d c=>?_,λb r=>⟨T.gl,T.mem,r⟩⟩
     .refine(yF K hS X hi C l.fo d Ve c w N Y R (λ_=>⟨Ve,Ve,Ve⟩)).bw ?_;rintro w'⟨r,-,k⟩;obtain⟨pm,pg,p,z1,z2,G,z4,z5⟩:=r B;rw[q2,q3]at z1;rw[q4]at z2;exact⟨U,k,pm,pg,p,z1,z2,λb a=> Yp (G b a),λb a=> Yp (z4 b a),λb a=> Yp (z5 b a)⟩
     .refine(QB (m:=⟨[],[],1,F,x.mem,x.gl,s.bG⟩) l.fn h ⟨U,U,he,h8,J⟩ rfl hF d c D u (λi hi b=>by
       grind[kY]) U Ve (by rw[S];exact P) (λ_=>q5)).mono ?_
      rintro r w'⟨k,a,rfl,-,p⟩;obtain⟨z1,s2,z2,G⟩:=p B;refine⟨?_,k,s2,z2,G.mem.symm,G.gl.symm,G.bG,G.k8⟩;rw[z1,q1];rfl
    .have G:=h1 B;refine⟨0,t,v,((F-E.aC:Nat):Int),x.mem,x.gl,s.bG,λW o f K hS X hi C d c=>?_,λW o z f h d c=>?_,hf⟩
     .refine(yF K hS X hi C l.fo d Ve c w N Y R (λe=>absurd e B)).mono ?_;grind
     .refine(QB (m:=⟨[],[],1,F,x.mem,x.gl,s.bG⟩) l.fn h ⟨U,U,he,h8,J⟩ rfl hF d c D u (λi hi b=>by
       grind[kY]) U Ve (by rw[S];exact P) (λe=>absurd e B)).mono ?_
      rintro r w'⟨k,a,rfl,p,-⟩;grind
section
variable{B:Nat}{X:Nat->Prop}{w W w' wy:World}{S:gI}{j:Nat}{x:In}{s:St}
def gB.abZ(h:gB B w X S)(tr:Bool):gB B (w.setCell ⟨S.wb,7,H⟩ (Yt tr)) X {S with tr:=tr}/\Kp (hi B) w (w.setCell ⟨S.wb,7,H⟩ (Yt tr)):=by
 have k:Kp (one S.wb) w (w.setCell ⟨S.wb,7,H⟩ (Yt tr)):=(Kp.refl _ _).bK _ _;have f:=h.up (.law 0) _ U;have g:∀i,¬i=.law 0->({S with tr:=tr}:gI).J i=S.J i:=λi hi=>by
  cases i with
  |law n=>match n with
   |0=>grind
   |1=>rfl
   |2=>rfl
   |3=>rfl
   |4=>rfl
   |5=>rfl
   |6=>rfl
   |_+7=>rfl
  |iQ n r=>rfl
  |ed n r=>rfl
 have d:∀i,(({S with tr:=tr}:gI).J i).az=(S.J i).az:=λi=>by
  by_cases hi:i=.law 0
  .subst hi;rfl
  grind
 have l:Hw (w.setCell ⟨S.wb,7,H⟩ (Yt tr)) ({S with tr:=tr}:gI).J:=by
  refine h.l.hp.yU (λi=>i=.law 0) k (λb i c hi=>h.l.hp.ap _ _ _ hi (by rw[show b=S.wb from c];rfl)) g (λi hi=>?_) (λi b hi c=> Yo ⟨i,hi,(d i).symm.trans c⟩) (λi j b hi a _ _=>hi.trans a.symm);subst hi;exact heap_setCell (o:=7) h.l.az (Yt tr)
 have kR:Kp (fy (RO w X S.J)) w (w.setCell ⟨S.wb,7,H⟩ (Yt tr)):=RO.kp k (λb _ c=> Yp ⟨.law 0,by rw[show b=S.wb from c];rfl⟩);have a:=RO.on (X:=X) (X':=X) (I':=({S with tr:=tr}:gI).J) k.size (λi b e=> Yo ⟨i,(d i).symm.trans e⟩) (λb h=> Yo h);refine⟨⟨⟨l,⟨h.l.rd.tab.on kR a,h.l.rd.t2.kp kR (λm=>m h.l.rd.r2),a _ h.l.rd.r2,λm n=>(h.l.rd.ms m n).on kR a,λs m=>(h.l.rd.ss s m).on kR a,λx n=>(h.l.rd.is x n).on kR a,h.l.rd.b.on kR a,h.l.rd.v.on kR a,h.l.rd.k.on kR a⟩,h.l.m4,h.l.s4,h.l.i4,h.l.n0⟩,λi b e=>h.up i b ((d i).symm.trans e),rq k.size h.le⟩,k.mono (λb _ c=>?_)⟩;rw[show b=S.wb from c];exact f
def gB.kpX(h:gB B w X S)(k:Kp X w w')(a:∀b i,X b->(S.J i).az≠M b):gB B w' X S:=
 ⟨⟨h.l.hp.quiet k a,h.l.rd.on (RO.kp k (λ_ _ h=> Yo h)) (RO.on k.size (λi b e=> Yo ⟨i,e⟩) (λb h=> Yo h)),h.l.m4,h.l.s4,h.l.i4,h.l.n0⟩,h.up,rq k.size h.le⟩
def gB.Dn(h:gB B w X S)(f:Hs S j x s)(d:rZ w (RO w X S.J) S.iG x)(a:zu w (RO w X S.J) s)(k:Kp no w W):eX W (RO w X S.J) x.ib x.tb x.m.x x.pm x.pg x.m.f x.mem x.gl/\dr W x.tb s.p s.bG/\nz W/\x.ib≠2/\x.tb≠2:=by
 have i:=d.Uo s.bG (by rw[<-a.eq.len];exact a.few);have o:x.gl.length<=8:=by
  have b:=i.gl.len;have c:=(d.m.p.st [] Vc).gl.len;have e:=d.m.p.gn;grind
 have p:x.mem.length<=256:=i.mem.2;have g:∀b,RO w X S.J b->b≠x.ib/\b≠x.tb:=λb c=>⟨λe=>c.2.2 (.ed j 0) (by rw[f.ib,e]),λe=>c.2.2 (.iQ x.s 0) (by rw[f.FV,e])⟩
 have m:=h.l.hp.dY (.ed j 0);have n:=h.l.hp.dY (.iQ x.s 0);rw[f.iI]at m;rw[f.sI]at n;have l:w.heap[s.tb]?=M (Yl #[V .i32 0,V .u32 0,.map s.p] 110):=n;rw[f.tb]at l;refine⟨⟨k.az m id,d.m.x.kp k.any,aw.kp d.pm k bW,aw.kp d.pg k bW,Y,Y,λb c=>⟨Vm c.1 k.size,g b c⟩,λb c=>g b (d.pmR b c),λb c=>g b (d.pgR b c)⟩,⟨k.az l id,a.map.kp k bW,by rw[<-a.eq.len];grind[zu.few]⟩,h.l.rd.t2.kp k id,λe=>h.l.hO (.ed j 0) (by rw[f.ib,e]),λe=>h.l.hO (.iQ x.s 0) (by rw[f.FV,e])⟩
def Aft(X:Nat->Prop)(w wx:Yw)(S:gI)(x:In)(mem:List UInt8)(gl:List Int)(bG:List (Int×Int)):Prop:=
 Kp (yE x.ib x.tb) w wx/\ ∃pm pg p,wx.heap[x.ib]?=M (mI x.tb x.m.x pm pg)/\wx.heap[x.tb]?=M (Yl #[V .i32 0,V .u32 0,.map p] 110)/\aw wx pm 1 mem.length (aP mem)/\aw wx pg 1 gl.length (ay gl)/\nP wx p bG/\(∀b,pm.ownBlock=M b->RO w X S.J b\/yP w wx b)/\(∀b,pg.ownBlock=M b->RO w X S.J b\/yP w wx b)/\ ∀b,p=M b->RO w X S.J b\/yP w wx b
theorem Aft.of{d:List (Int×Int)}{p:Option Nat}(h:gB B w X S)(l:Hs S j x s)(m:rZ w (RO w X S.J) S.iG x)(f:zu w (RO w X S.J) s)(n:Kp no w W)(k:Kp (yE x.ib x.tb) W w')(g:eX w' R x.ib x.tb x.m.x v u x.m.f D I)(hS:dr w' x.tb p d)
  (t:∀b,v.ownBlock=M b->x.pm.ownBlock=M b\/yP W w' b)(y:∀b,u.ownBlock=M b->x.pg.ownBlock=M b\/yP W w' b)(z:∀b,p=M b->s.p=M b\/yP W w' b)(c:Kp (λb=>w.heap.size<=b/\(b<W.heap.size\/w'.heap.size<=b)) w' wy):Aft X w wy S x D I d:=by
 have A:=n.size;have C:=c.size;have E:=(h.l.hp.dY (.ed j 0)).lt l.ib;have F:=(h.l.hp.dY (.iQ x.s 0)).lt l.FV;have i:∀b,(RO w X S.J b\/yP W w' b)-> ¬(w.heap.size<=b/\(b<W.heap.size\/w'.heap.size<=b)):=λb a e=>by
  rcases a with a|a
  .have :=a.1;omega
  omega
 have up:∀b,(RO w X S.J b\/yP W w' b)->RO w X S.J b\/yP w wy b:=λb a=>a.imp id (λa=>⟨Y,Y⟩)
 have o:∀b,v.ownBlock=M b->RO w X S.J b\/yP W w' b:=λb a=>(t b a).imp (λe=>m.pmR b e) id
 have q:∀b,u.ownBlock=M b->RO w X S.J b\/yP W w' b:=λb a=>(y b a).imp (λe=>m.pgR b e) id
 have r:∀b,p=M b->RO w X S.J b\/yP W w' b:=λb a=>(z b a).imp (λe=>f.ro b e) id
 refine⟨?_,v,u,p,c.az g.az Y,c.az hS.az Y,aw.kp g.tU c (λb a=>i b (o b a)),aw.kp g.JC c (λb a=>i b (q b a)),hS.map.kp c (λb a=>i b (r b a)),λb a=>up b (o b a),λb a=>up b (q b a),λb a=>up b (r b a)⟩;exact(n.any.trans k).comp c bW (λb a e=>Y)
def Aft.adb{c:List (Int×Int)}(h:gB B w X S)(k:Hs S j x s)(l:rZ w (RO w X S.J) S.iG x)(e:Aft X w w' S x D I c)(m:Kp (iM (JN w' x s)) w' wy){d:Rs}(q:QX (dE x (RO w X S.J)) (JN w' x s) wy d)(e1:d.mem=D)(e2:d.gl=I)(e3:lY d.st c)(e4:d.st.length<=8)(f:Iq x.m D I)(n:∀b,X b->b<w.heap.size):
  ∃a,gB B wy X a/\Kp (hi B) w wy/\a.wb=S.wb/\a.tr=S.tr/\a.nb=S.nb/\a.nv=S.nv/\a.nk=S.nk/\ ∀i b,(a.J i).az=M b->(∃g,(S.J g).az=M b)\/w'.heap.size<=b:=by
 obtain⟨a,g,i,p,o,r,t,u,v,y,z,A⟩:=e;grind[gB.after]
def Hs.TQ(h:gB B w X S)(b:Hs S j x s)(c:w.heap.size<=a)(d:a<W.heap.size):JN W x s a:=b.se d (λi _ _ e=>h.l.hp.new c _ e)
def Hs.QJ(c:Hs S j x s)(d:w.heap.size<=W.heap.size)(b:RO w X S.J a):JN W x s a:=c.se (Vm b.1 d) (λi _ _=>b.2.2 _)
end
abbrev BI(kd a b c:Int)(sv lv:Yx):Value:=.agg #[V O kd,V O a,V O b,V O c,sv,lv]
def Iv{B:Nat}{w:Yw}{S:gI}(h:gB B w no S){j:Nat}{x:In}(hj:S.ed[j]?=M x)(kd a b c:Int)(J:Option Addr)(ns cs:Nat){args:List Int}(hl:jU w z args)(w1:∀b,Ic z args=M b->RO w no S.J b)(hr:∀v∈args,0<=v/\v<18446744073709551616)(W0:args.length<=2000000):
  Yy prog 61 #[aj S.wb,.agg #[aj x.ib,ptr x.xb],BI kd a b c (Q J ns cs) z] w (eR B w S λ_=>True):=by
 obtain⟨s,l,hx,h0⟩:=h.inst hj;obtain⟨e,t,v,u,W1,gl,W2,hP,hD,hF⟩:=TP hx.m.p hx.Uo h0.eq h0.few b c hr;obtain⟨i0,W3,W4,W5,N⟩:=info_parts uC;obtain⟨A,P,rfl,W6⟩:=hl.aJ;have w2:0<(ay args).length-> ∃a,A=M a/\ ∀W,Kp no w W-> ∀j x,(ay args)[j]?=M x->W.cell? (a.add j)=M x:=by
  intro i;rcases hl with⟨he,d⟩|⟨a,c,he,-,f⟩
  .rw[jt,d]at i;simp at i
  .cases he;exact⟨_,U,λW k j x hj=>k.aY (f j x hj)⟩
 have d:=Z h;have W7:=au h.l.az;obtain⟨wb,h1⟩:=bL S.wb;rw[<-h1]at W7⊢;have W8:wrap64 (args.length+2)=((args.length+2:Nat):Int):=by unfold wrap64;omega
 clear h hr hj;change Hid _ at w1 h1;replace hl:=Z hl;replace hF:=Z hF;replace hD:=Z hD;replace hP:=Z hP;change Hid _ at w2 l hx h0;go_enter func61,ntmps61;go_wp2_with(at_make;refine wpList_make_full _ U _ _ 53 U 0 38 i0 _ 1 underlying53 W3 W4 W5 _ _ _ _ (args.length+2) U U (by first |rfl |(push_cast;rfl)) (by first |rfl |(push_cast;rfl)) ?c1 ?c2 (VB _) ?_);case c1=>rw[N];omega
 case c2=>unfold maxLen;omega
 intro z6 W9 x0;have kB:Kp no w ((w.alloc (Yl #[aj x.ib,ptr x.xb] 154)).alloc (Yl #[V O kd,V O a,V O b,V O c,Q J ns cs,Q A args.length P] 93)):=((Kp.refl _ _).alloc _).alloc _;have x1:=ah (o:= Yl #[V O kd,V O a,V O b,V O c,Q J ns cs,Q A args.length P] 93) (ai w (Yl #[aj x.ib,ptr x.xb] 154));have w3:=ai (w.alloc (Yl #[aj x.ib,ptr x.xb] 154)) (Yl #[V O kd,V O a,V O b,V O c,Q J ns cs,Q A args.length P] 93);have y0:((w.alloc (Yl #[aj x.ib,ptr x.xb] 154)).alloc (Yl #[V O kd,V O a,V O b,V O c,Q J ns cs,Q A args.length P] 93)).heap.size=w.heap.size+2:=Vc
 have x2:(w.alloc (Yl #[aj x.ib,ptr x.xb] 154)).heap.size=w.heap.size+1:=Vc
 rw[x2]at w3;have K8:=Kp.nZ x0;generalize(w.alloc _).alloc _=wB at *;have w5:=K8.az x1 id;have h4:=K8.az w3 id;have h5:=kB.trans K8;obtain⟨y1,⟨he,-⟩|⟨g,cp,w6,he,hg,hh,-,y2,h6,h7⟩⟩:=W9
 .cases he
 cases he;obtain⟨y3,-⟩:=ae h4;rw[Xh,Wu (by have:w6.toList.length=(args.length+2)*1:=(by simpa using h6);omega)]at h7;clear x0 y1 hg K8 kB y2 x1 w3 y0 x2;change Hid _ at hh h5 h6 h7 w5 h4;go_wp2_with(refine wpList_copy_splice U _ _ _ _ U 38 underlying53 D5 _ _ _ _ _ _ U U (w.heap.size+1+1) 0 w6.toList 38 ?d1 (ay args) ?d2 (λi=>⟨U,?d3⟩) ?d4 (dX _) (w.heap.size+1+1) z6 (Below.refl _ _) cQ ?_);case d1=>rw[WX];exact hh
 case d2=>rw[jt];simp
 case d3=>obtain⟨a,e,f⟩:=w2 i;exact⟨a,e,f _ h5⟩
 case d4=>have:=h6.out;rw[jt];simp;omega
 intro x3 x4 R;have K9:Kp (λb=>w.heap.size+1+1<=b) z6 x3:=⟨R.os,R.tape,R.output,R.size,λk _ hn=>R.block k Y⟩;have x5:splice w6.toList 0 (ay args)=ay (args++[0,0]):=by
  unfold splice;rw[h7.out,toList_madeCells_one,List.take_zero,V1,Vv,jt];rw[X2,V8];simp[ay]
 have h8:x3.heap[w.heap.size+1+1]?=M (Yl (ay (args++[0,0])).toArray 38):=by
  have:=x4.out;rw[x5]at this;exact this
 obtain⟨y4,y5⟩:=ae h8;have y6:(ay (args++[0,0])).toArray[args.length]?=M (V Yr 0):=by simp[ay]
 have C:=heap_setCell (o:=args.length) h8 (V Yr 77);have h9:=K9.az w5 Y;have k0:=K9.az h4 Y;have w7:=h5.comp K9 bW (λb m e=>Y);have x6:=Z C;obtain⟨k1,-⟩:=ae k0;obtain⟨w8,-⟩:=ae h9;have N:=au h8;clear h8 R x4 x5 K9 C y3 hh h6 h7 w5 h4 h5 w2;change Hid _ at h9 k0 w7;go_upto_region 5 with fail
 have x7:w.heap.size≠w.heap.size+1+1:=Y
 have x8:w.heap.size+1≠w.heap.size+1+1:=Y
 have w9:=aB (o:=args.length) x7 (V Yr 77) h9;have e0:=aB (o:=args.length) x8 (V Yr 77) k0;have D:Kp no w (x3.setCell ⟨w.heap.size+1+1,args.length,H⟩ (V Yr 77)):=w7.cq Y _ _;have C:(x3.setCell ⟨w.heap.size+1+1,args.length,H⟩ (V Yr 77)).heap[w.heap.size+1+1]?=M (Yl (ay (args++[77,0])).toArray 38):=by
  rw[x6.out];congr 2;apply Array.ext';rw[Xx];simp[ay]
 generalize x3.setCell _ _=n at *;obtain⟨G,j⟩:=bL (w.heap.size+1+1);have H3:=Z (d.kp (X':=one G) D (λb h=> Yp (by unfold one at h;omega)));have k2:=RO.on (X:=no) (X':=one G) (I:=S.J) D.size (λi b e=> Yo ⟨i,e⟩) (λb h=> Yp (Yp (by unfold one at h;omega)));have T:=Z (hx.on (RO.kp D (λ_ _ h=>h.elim)) k2);have k3:=Z (h0.on (RO.kp D (λ_ _ h=>h.elim)) k2);have e5:Hid _:=Z (λb m=>k2 b (w1 b m));have y7:=Z (jU.kp hl D bW);have k4:jP n (Q (M ⟨w.heap.size+1+1,0,H⟩) args.length (args.length+2)) args:=by
  refine⟨by rw[jt];omega,Yp ⟨_,0,_,U,Y,λk u hk=>?_⟩⟩;rw[Vv,(ae C).1];obtain⟨z1,z2⟩:=VA.1 hk;rw[Wk,show ay _=ay args++ay [77,0]by simp[ay],VC z1];exact hk
 have k5:=au C;clear k2 x6 h9 k0 w7 k1 w8 y4 y5 y6 x7 x8 hl hx h0;replace j:=Z j;change Hid _ at C w9 e0 D;replace k4:=Z k4;obtain⟨Sk,h2⟩:=bL (λp=>(∀q,p.cell? ⟨w.heap.size,q,H⟩=#[aj x.ib,ptr x.xb][q]?)/\(∀q,p.cell? ⟨w.heap.size+1,q,H⟩=#[V O kd,V O a,V O b,V O c,Q J ns cs,Q A args.length P][q]?):Yw->Prop);have E:∀W,Kp (yE x.ib x.tb) n W->Sk W:=λW p=>by
  rw[h2];have il:x.ib<w.heap.size:=(d.l.hp.dY _).lt l.ib;have tl:x.tb<w.heap.size:=(d.l.hp.dY _).lt l.FV;exact⟨(ae (p.az w9 (λe=>by rcases e with e|e<;>omega))).1,(ae (p.az e0 (λe=>by rcases e with e|e<;>omega))).1⟩
 have x9:=Z h2;clear h2;change Hid _ at E;go_cut [9] (λp wx=> ∃rB,p= Yv (M ⟨rB,0,H⟩)/\n.heap.size<=rB/\wx.heap[rB]?=M (Yl #[V O e,V O t,V Yr v,V O u] 51)/\Aft (one G) n wx S x W1 gl W2);case first =>
  have s0:(args.length:Int)<=args.length+2:=Y
  refine rj 11 12 (Sk) ?hS λhS=>?_
  case hS=>exact E _ fL
  have h2:=x9.out;subst h2;refine tj 0 ?_;iterate 8 refine tn ?_
  refine wj 9 10 (λK y=>?ade) λK y=>?adf
  case ade=>
   obtain⟨z1,z2,z3,z4,z5⟩:=H3.Dn l T k3 ((Kp.refl no n).drew);have il:x.ib<w.heap.size:=(d.l.hp.dY _).lt l.ib;have tl:x.tb<w.heap.size:=(d.l.hp.dY _).lt l.FV;refine sc (hP _ _ _ z1 z2 z3 z4 z5 (aw.kp k4 ((Kp.refl no n).drew) bW) (λb m=>by have:w.heap.size+1+1=b:=Vr m;omega)) ?_;rintro r w4⟨rfl,L,pm,pg,p,k8,e6,k9,w0,e7⟩;have W:Kp _ n w4:=(((Kp.refl no n).drew).any).trans L;refine⟨_,U,y _ _ (E _ W) (λhS=>?_)⟩;clear y K;simp only[pS];refine oj 10 λK y=>?_
   go_simp;have F:=ai w4 (Yl #[V O 0,V O 0,V Yr 0,V O 0] 51);have h3:Kp no w4 (w4.alloc (Yl #[V O 0,V O 0,V Yr 0,V O 0] 51)):=oO;generalize w4.alloc _=e8 at *;obtain⟨k6,k7⟩:=ae F;refine y _ _ (E _ (W.then h3)) (λhS=>?_);clear y K;refine ej 11 λK y=>?_
   go_simp;refine y _ _ ?_;clear y K;refine dj ?_;have e9:=W.size;have ky:=(((h3.cq cQ 0 (V O e)).cq cQ 1 (V O t)).cq cQ 2 (V Yr v)).cq cQ 3 (V O u);have hA:=Z (Aft.of H3 l T k3 ((Kp.refl no n).drew) L k8 e6 k9 w0 e7 ky.any);have hQ:=Z (heap_setCell (o:=3) (heap_setCell (o:=2) (heap_setCell (o:=1) (heap_setCell (o:=0) F (V O e)) (V O t)) (V Yr v)) (V O u));clear hS k8 e6 k9 w0 e7 ky L z1 z2 z3 k6 k7 F h3 W;go_wp2_with fail;go_meet;exact⟨_,U,e9,hQ,hA⟩
  case adf=>
   go_simp;have W:=ai n (Yl #[V O 0,V O 0,V Yr 0,V O 0] 51);have L:Kp no n ((n.alloc (Yl #[V O 0,V O 0,V Yr 0,V O 0] 51)).drew):=MV;change((n.alloc _).drew).heap[n.heap.size]?=_ at W;generalize(n.alloc _).drew=w4 at *;refine y _ _ (E _ L.any) (λhS=>?_);clear y K;refine oj 9 λK y=>?_
   obtain⟨z1,z2,z3,z4,z5⟩:=H3.Dn l T k3 L;have il:x.ib<w.heap.size:=(d.l.hp.dY _).lt l.ib;have tl:x.tb<w.heap.size:=(d.l.hp.dY _).lt l.FV;refine sc (hP _ _ _ z1 z2 z3 z4 z5 (aw.kp k4 L bW) (λb m=>by have:w.heap.size+1+1=b:=Vr m;omega)) ?_;rintro r e8⟨rfl,h3,pm,pg,p,k8,e6,k9,w0,e7⟩;refine⟨_,U,y _ _ (E _ (L.any.trans h3)) (λhS=>?_)⟩;clear y K;have F:=h3.az W (λe=>by rcases e with e|e<;>omega);obtain⟨k6,k7⟩:=ae F;simp only[pS];refine ej 11 λK y=>?_
   go_simp;refine y _ _ ?_;clear y K;refine dj ?_;have e9:=au W;have y:(λb=>n.heap.size<=b/\(b<w4.heap.size\/e8.heap.size<=b)) n.heap.size:=⟨cQ,Yo e9⟩;have ky:=((((Kp.refl (λb=>n.heap.size<=b/\(b<w4.heap.size\/e8.heap.size<=b)) e8).bE y 0 (V O e)).bE y 1 (V O t)).bE y 2 (V Yr v)).bE y 3 (V O u);have hA:=Z (Aft.of H3 l T k3 L h3 k8 e6 k9 w0 e7 ky);have hQ:=Z (heap_setCell (o:=3) (heap_setCell (o:=2) (heap_setCell (o:=1) (heap_setCell (o:=0) F (V O e)) (V O t)) (V Yr v)) (V O u));clear hS k8 e6 k9 w0 e7 ky L z1 z2 z3 k6 k7 F h3 W y;go_wp2_with fail;go_meet;exact⟨_,U,cQ,hQ,hA⟩
 case rest=>
  rename Yw=>wx
  obtain⟨rB,rfl,k6,k7,hA⟩:=hcut;have p:=hA.1;have il:x.ib<w.heap.size:=(d.l.hp.dY _).lt l.ib;have tl:x.tb<w.heap.size:=(d.l.hp.dY _).lt l.FV;have F:=p.size;have K:=au k7;have hq:=H3.qx l T p;have H0:=p.az w9 (λe=>by rcases e with e|e<;>omega);have k8:=p.az e0 (λe=>by rcases e with e|e<;>omega);have w4:=p.az C (λe=>by rcases e with e|e<;>omega);have W:=jU.kp y7 p (λb m e=>by
   have r:=e5 b m;rcases e with e|e
   .exact r.2.2 _ (by rw[l.ib,e])
   .exact r.2.2 _ (by rw[l.FV,e]))
  have hd:=hD wx _ _ (Q A args.length P) hq W (λb m=>l.QJ F (e5 b m));obtain⟨w8,-⟩:=ae H0;obtain⟨k1,-⟩:=ae k8;clear H0 hq p E x9;replace W:=Z W;change Hid _ at k7 k8 w4;replace hA:=Z hA;replace hd:=Z hd;go_wp2_with fail;refine hd.bw ?_;rintro s9⟨e6,s',H1,e1,e2,e3,e4⟩;obtain⟨S',H2,H4,H5,y8,n1,n2,n3,H6⟩:=hA.adb H3 l T e6 H1 e1 e2 e3 e4 hF (λb m=>by have:=j.out;unfold one at m;omega);have H7:∀b i,one G b->(S'.J i).az≠M b:=λb i m e=>by
   have:=j.out;unfold one at m;rcases H6 i b e with⟨y,r⟩|r
   .have :=(d.l.hp.dY y).lt r;omega
   .omega
  have nw:∀b,w.heap.size<=b->b<wx.heap.size-> ¬iM _ b:=λb k9 w0 hn=>hn (l.TQ d k9 w0)
  have H8:=e6.az k7 (nw _ Y K);have e7:=e6.az k8 (nw _ Y Y);have H9:=e6.az w4 (nw _ Y Y);have e8:=jU.kp W e6 (λb m hn=>hn (l.QJ F (e5 b m)));have k9:=e6.size;have y9:=Z ((D.any).trans H4);have h3:=Z (show _/\_/\_/\_ from⟨H5,n1,n2,n3⟩);clear H4 H6 H5 y8 n1 n2 n3 nw e6 H1 e1 e2 e3 e4 w8 k1 hd hA k7 k8 w4 W;change Hid _ at e7 H9 H8;replace e8:=Z e8;change Hid _ at H7 H2;go_upto_region 7 with fail
  have r:Kp no s9 (s9.alloc (Yl #[V O e,V O t,V Yr v,V O u] 51)):=oO;have e9:=ai s9 (Yl #[V O e,V O t,V Yr v,V O u] 51);generalize s9.alloc _=z0 at *;have s0:=r.az H9 id;obtain⟨s1,-⟩:=ae s0;have s2:z0.cell? ⟨w.heap.size+1+1,args.length,H⟩=M (V Yr 77):=by rw[s1];simp[ay]
  have s3:z0.cell? ⟨w.heap.size+1+1,args.length+1,H⟩=M (V Yr 0):=by rw[s1];simp[ay]
  have z1:wrap64 (args.length+1)=((args.length+1:Nat):Int):=by unfold wrap64;omega
  have K0:=Z s0;have z4:=au e9;rw[<-j.out]at s2 s3 K0⊢;have z2:w.heap.size+1+1=G:=j.symm;have z5:w.heap.size+1<G:=Y
  clear s0 s1 W8 W6 z2;change Hid _ at e9 r;obtain⟨L,hL⟩:=bL args.length;rw[<-hL]at s2 s3 z1⊢;have z7:L<=2000000:=Y
  have HZ:=Z (show _/\_/\_/\_/\_/\_ from⟨N,k5,k6,F,K,k9⟩);clear W0 N k5 k6 F K k9;change Hid _ at hL;obtain⟨oB,K1⟩:=bL (w.heap.size+1);have z8:oB<G:=Y
  have K2:=e7;rw[<-K1]at K2⊢;clear K1 e7;go_wp2_with fail;go_loopw [11,12] (λo i wr=> ∃(k:Nat) (c:Array Yx),k<=L/\o= Yt Yk/\i= V O k/\wr.heap[G]?=M (Yl c 38)/\c.size=L+2/\(∀q,k<=q->c[q]?=(ay (args++[77,0])).toArray[q]?)/\Kp (one G) z0 wr) (λ_ i _=>L - (intOf i).toNat);case atStart=>exact⟨0,_,Y,U,U,K0,by have:=hL.out;simp[ay];omega,λ_ _=>rfl,iR⟩
  case round=>
   obtain⟨k,cc,hk,rfl,rfl,s4,K3,s5,i⟩:=hrel;have K4:=i.az (r.az K2 id) (λe=>by unfold one at e;omega);obtain⟨k1,-⟩:=ae K4;clear s2 s3 K4;change Hid _ at s5 s4 K3;replace i:=Z i;by_cases z9:k<L
   .have w0:k<args.length:=cj hL.out;have s6:(ay args)[k]?=M (V Yr (args.getD k 0)):=by simp[ay,Vj w0]
    obtain⟨a1,o1,c1,s7,_,s8⟩:=e8.get s6;have p0:a1<w.heap.size:=(w1 a1 (by unfold Ic;rw[Va (λe=>by rw[e]at w0;simp at w0),s7];rfl)).1;simp only[Vz]at s7;obtain⟨rfl,-,rfl⟩:=s7;replace s8:=i.cell (r.aY s8) (λe=>by have:a1=G:=e;omega);have K5:cc[k]?=M (V Yr (args.getD k 0)):=by
     rw[s5.out k cQ,Wk,show ay _=ay args++ay [77,0]by simp[ay],VC (by rw[jt];exact w0)];exact s6
    obtain⟨K6,K7⟩:=ae s4;have z3:wr.cell? ⟨G,k,H⟩=M (V Yr (args.getD k 0)):=by rw[K6];exact K5
    have p1:=K7 k;obtain⟨y,hy⟩:=bL (args.getD k 0);rw[<-hy]at s8 z3;clear K5 K6 K7 s6 hy;go_wp2_with fail;go_quiet(fail);go_wp2_with fail;go_roundw;case rel=>
     refine⟨k+1,_,Y,Vc,by go_num,heap_setCell (by exact s4) _,by have:=K3.out;simp;omega,λq hq=>?_,(i.drewN _).bK _ _⟩;rw[Xo Y];exact s5 q Y
    case measure=>simp[intOf];omega
   .obtain⟨N,k5,k6,F,K,k9⟩:=HZ;have y:=Z ((H2.kp r (λ_ h=> Yo h)).kpX i H7);have w0:=i.az (r.az H8 id) (λe=>by have:=j.out;have:rB=G:=e;omega);have s6:=i.az e9 (λe=>by have:=j.out;have:s9.heap.size=G:=e;omega);have q:=y.l.az;rw[h3.1,<-h1.out]at q;obtain⟨K6,-⟩:=ae w0;obtain⟨K5,-⟩:=ae s6;obtain⟨tr,s7⟩:=bL S'.tr;unfold hJ at q;rw[<-s7]at q;obtain⟨K7,z3⟩:=ae q;obtain⟨r2,s8⟩:=bL s9.heap.size;rw[<-s8]at K5⊢;have KF:Hid _:=Z (((y9.then r)).trans (i.mono (λb _ m=>by have:=j.out;have:=d.le;have:b=G:=m;show B<=b;omega)));have fW:∀m:Bool,eR B w S (λ_=>True) _ _:=λm=>by
     obtain⟨f1,f2⟩:=y.abZ m;rw[h3.1,<-h1.out]at f1 f2;exact⟨U,_,f1.kp (Kp.refl no _) (λ_ h=>h.elim),KF.trans f2,h1,⟨by have:=h3.2.1;show S'.nb<=_;omega,by have:=h3.2.2.1;show S'.nv<=_;omega,by have:=h3.2.2.2;show S'.nk<=_;omega⟩,trivial⟩
    clear w0 s6 q s8 s7 y N k5 k6 F K k9;change Hid _ at fW;cases tr with
    |true=>
     go_wp2_with fail;go_ret;exact fW _
    |false=>
     go_wp2_with fail;go_ret;exact fW _
def jz(l: -9223372036854775808<=y)(m:y<=9223372036854775807)(g:0<i)(h:i<=1000):
  ∃k:Nat,k<i/\ ∀w:Yw,fX 58 #[V O y,V O i] w (V O k):=by
 have f:∀d:Int,0<=d-> ∃k:Nat,k<i/\Int.tmod d i=k:=λd a=>by
  obtain⟨e,rfl⟩:=WN a;exact⟨e%i,Wn _ g,by rw[WC Y];rfl⟩
 by_cases n:y<0
 .obtain⟨k,a,d⟩:=f (-(y+1)) Y;refine⟨k,a,λw=>?_⟩;have e:wrap64 (y+1)=y+1:=by unfold wrap64;omega
  have j:wrap64 (-(y+1))= -(y+1):=by unfold wrap64;omega
  have b:wrap64 (k:Int)=k:=by unfold wrap64;omega
  have c:((i:Int)==0)=false:=Vd
  go_enter func58,ntmps58;go_wp2;go_ret;exact⟨U,U⟩
 .obtain⟨k,a,d⟩:=f y Y;refine⟨k,a,λw=>?_⟩;have b:wrap64 (k:Int)=k:=by unfold wrap64;omega
  have c:((i:Int)==0)=false:=Vd
  go_enter func58,ntmps58;go_wp2;go_ret;exact⟨U,U⟩
def yI{b:Type}{f g:b->Yx}:∀{l:List b} {k:Nat} {x:b},l[k]?=M x->(l.flatMap λm=>[f m,g m])[k*2]?=M (f x)/\(l.flatMap λm=>[f m,g m])[k*2+1]?=M (g x)
 |[],_,_,h=>by simp at h
 |a::l,0,x,h=>by
  grind
 |a::l,k+1,x,h=>by
  simp at h;have:=yI (f:=f) (g:=g) h;grind
def Kp.same{w w':Yw}{o:Obj}(k:Kp (one i) w w')(h:w.heap[i]?=M o)(a:w'.heap[i]?=M o):Kp no w w':=⟨k.os,k.tape,k.output,k.size,λq b _=>by
 by_cases e:q=i
 .rw[e,h,a]
 .exact k.block q b e⟩
section
variable{B:Nat}{X:Nat->Prop}{w:World}{S:gI}{k:Nat}
def aav{t:TypeId}(h:w.ownsRow 0 t 2 v i F)(d:F[k*2]?=M u)(e:F[k*2+1]?=M z):∃a b c,v= Q (M ⟨a,b,H⟩) i c/\w.cell? ⟨a,b+k*2,H⟩=M u/\w.cell? ⟨a,b+k*2+1,H⟩=M z:=by
 obtain⟨a,b,c,g,-,j⟩:=(aw.own h).get d;obtain⟨_,_,_,f,-,c1⟩:=(aw.own h).get e;grind
def gB.aaw(h:gB B w X S){x:Md}(c:S.eZ[k]?=M x):∃a b d,S.mv= Q (M ⟨a,b,H⟩) S.eZ.length d/\w.cell? ⟨a,b+k*2,H⟩=M (aj x.x)/\w.cell? ⟨a,b+k*2+1,H⟩=M (ptr x.y):=aav (h.l.l4 (i:=.law 1) U) (yI c).1 (yI c).2
def gB.TT(h:gB B w X S){x:St}(c:S.iG[k]?=M x):∃a b d,S.sv= Q (M ⟨a,b,H⟩) S.iG.length d/\w.cell? ⟨a,b+k*2,H⟩=M (aj x.tb)/\w.cell? ⟨a,b+k*2+1,H⟩=M (ptr x.sb):=aav (h.l.l4 (i:=.law 2) U) (yI c).1 (yI c).2
def gB.aax(h:gB B w X S){x:In}(c:S.ed[k]?=M x):∃a b d,S.iv= Q (M ⟨a,b,H⟩) S.ed.length d/\w.cell? ⟨a,b+k*2,H⟩=M (aj x.ib)/\w.cell? ⟨a,b+k*2+1,H⟩=M (ptr x.xb):=aav (h.l.l4 (i:=.law 3) U) (yI c).1 (yI c).2
end
def QP:∀{l m:List Int},l.Pairwise (· < ·)->m.Pairwise (· < ·)->(∀x,x∈l↔x∈m)->l=m
 |[],[],_,_,_=>rfl
 |[],b::m,_,_,h=>by grind[List.mem_cons_self]
 |a::l,[],_,_,h=>by grind[List.mem_cons_self]
 |a::l,b::m,c,d,h=>by
  rw[Wl]at c d;have e:a=b:=by
   grind[List.mem_cons_self]
  subst e;rw[QP c.2 d.2 (λx=>?_)];grind
def yJ:∀{a:List (Int×Int)} {k:Int},Hh a->((lJ a k).isSome=Yk↔k∈a.map (·.1))
 |[],k,_=>by grind[lJ,kP]
 |p::l,k,h=>by
  have a:=Wl.1 h;rw[jk,WA,Wg];by_cases c1:p.1<k
  .rw[Vi c1,yJ a.2];grind
  grind
def lY.U3{a m:List (Int×Int)}(h:lY a m)(b:qX I m):I=a.map (·.1):=by
 refine QP b.asc ?_ (λx=>?_)
 .have :=h.PU;grind[Hh]
 .rw[b.mem,<-h.get,yJ h.PU]
def zx(S S':gI):Prop:=S'.eZ=S.eZ/\S'.iG=S.iG/\S'.ed=S.ed
def Dt(h:(Value.slice (M ⟨i,0,H⟩) a t).ownBlock=M o):o=i:=(Vr h).symm
def pk{P:Prop}(h:P:=by
  refine rj 15 16 (Sx) ?hS λhS=>?_
  case hS=>exact BQ _ fL
  have b:=MO.out;subst b;have c:=λt=>ae (show((wq.alloc (Yl #[Yv H,Yv H] t)).drew).heap[wq.heap.size]?=_ from ai wq _)
  have d:=λt=>(c t).1
  have e:=λt=>(c t).2
  clear c;refine tj 0 ?_;iterate 10 refine tn ?_
  refine wj 11 14 (λK a=>?_) λK a=>?_
  focus
   refine sc (HP _) ?_;rintro r f⟨rfl,rfl⟩;refine⟨_,U,a _ _ (BQ _ fL) (λhS=>?_)⟩;clear a K;simp only[pS];refine tj 12 ?_;refine tj 13 ?_;refine oj 14 λK a=>?_
   go_simp;refine a _ _ (BQ _ (MV)) (λhS=>?_);clear a K;refine ej 15 λK a=>?_
  rotate_left
  focus
   go_simp;refine a _ _ (BQ _ (MV)) (λhS=>?_);clear a K;refine oj 11 λK a=>?_
   refine sc (HP _) ?_;rintro r g⟨rfl,rfl⟩;refine⟨_,U,a _ _ (BQ _ (MV)) (λhS=>?_)⟩;clear a K;simp only[pS];refine tj 12 ?_;refine tj 13 ?_;refine ej 15 λK a=>?_
  all_goals
   go_simp;refine a _ _ ?_;clear a K;refine dj ?_;go_wp2_with fail;go_meet;exact⟨U,ai wq _,MV⟩):P:=h
def jV{P:Prop}(h:P:=by
 rw[sk];exact⟨(ae ((k1.trans kk).az HB.out id)).1,(ae (kk.az xp id)).1,(k1.trans kk).aY c0,(k1.trans kk).aY c1⟩):P:=h
def FK{w:Yw}{S:gI}(h:gB i w no S)(h0:0<S.ed.length)(hc:S.nb<=100000000)(a b c:Int)(h1: -9223372036854775808<=a)(h2:a<=9223372036854775807)(e:Option Addr)(B C:Nat)(D:Option Addr)(E F:Nat):
  Yy prog 62 #[aj S.wb,BI 7 a b c (Q e B C) (Q D E F)] w (eR i w S (zx S)):=by
 have k6:S.ed.length<=4:=h.l.i4;obtain⟨k,hk,G⟩:=jz h1 h2 h0 Y;obtain⟨x,t⟩:∃x,S.ed[k]?=M x:=⟨_,Vj hk⟩;obtain⟨aM,oM,cM,hv,c0,c1⟩:=h.aax t;have l:=h.l.az;unfold hJ at l;rw[hv]at l;have d:=Z h;have HP:=Z G;have h3:=Z t;have HB:=Z l;have h4:=au h.l.az;obtain⟨wb,m⟩:=bL S.wb;rw[<-m]at h4 HB⊢;clear h G t l hv;change Hid _ at m;go_enter func62,ntmps62;have k1:Kp no w (w.alloc (Yl #[V O 7,V O a,V O b,V O c,Q e B C,Q D E F] 93)):=oO;have xp:=ai w (Yl #[V O 7,V O a,V O b,V O c,Q e B C,Q D E F] 93);obtain⟨h5,-⟩:=ae (k1.az HB id);go_wp2_with fail;generalize w.alloc (Yl #[V O 7,V O a,V O b,V O c,Q e B C,Q D E F] 93)=wq at *;obtain⟨Sx,sk⟩:=bL (λf=>(∀q,f.cell? ⟨wb,q,H⟩=#[S.mv,S.sv,Q (M ⟨aM,oM,H⟩) S.ed.length cM,V O S.n,S.bv,S.vv,S.kv,Yt S.tr][q]?)/\(∀q,f.cell? ⟨w.heap.size,q,H⟩=#[V O 7,V O a,V O b,V O c,Q e B C,Q D E F][q]?)/\f.cell? ⟨aM,oM+k*2,H⟩=M (aj x.ib)/\f.cell? ⟨aM,oM+k*2+1,H⟩=M (ptr x.xb):Yw->Prop);have I:∀W,Kp no wq W->Sx W:=λW kk=>by
  exact jV
 have BQ:=Z I;have MO:=Z sk;have K1:=Z k1;have k7:=Z xp;have k8:=au xp;clear I sk k1 xp h5 c0 c1;go_cut [6] (λp f=>p= Yv (M ⟨wq.heap.size,0,H⟩)/\f.heap[wq.heap.size]?=M (Yl #[aj x.ib,ptr x.xb] 154)/\Kp no wq f);case first =>exact pk
 case rest=>
  rename Yw=>w3
  obtain⟨rfl,q,k3⟩:=hcut;obtain⟨s,X,t,J⟩:=d.inst h3;have f:=K1.trans k3;obtain⟨z1,z2,-⟩:=d.Dn X t J f;have u:=MN z1 z2;have K:=f.az (show w.heap[x.xb]?=_ by have:=d.l.hp.dY (.ed k 1);rw[X.iI]at this;exact this) id;have v:=d.l.hp.dY (.ed k 2);rw[X.iI]at v;have n:aq w x.mv x.mem:=aw.own v;obtain⟨k9,w0,y,-⟩:=n.aJ;have L:=(t.Uo [] Vc).mem.2;have w1:x.mem.length<=256:=L;obtain⟨h6,-⟩:=ae q;have N:=z2.az;have w2:=f.size;have w5:=k3.size;clear v k3 X t J z1 z2 L BQ MO;change Hid _ at y N q f;replace n:=Z n;change Hid _ at K;replace u:=Z u;go_wp2_with fail;refine u.mono ?_;rintro r w4⟨⟨g,rfl,hg,j⟩,P,k4⟩;have o:Kp no w3 w4:=k4.same N P.az;have z:=o.az K id;rw[y.out]at z;have R:=o.az q id;obtain⟨h7,-⟩:=ae R;obtain⟨h8,-⟩:=ae z;have K4:=Z (f.trans o);have w6:=bR j (b:=g) U;have p:=n.kp K4 bW;rw[y.out]at p;clear o k4 P z R h6;replace p:=Z p;replace j:=Z j;go_wp2_with fail;refine(mO (show aq w4 _ x.mem from aw.own j) p Y).bw ?_;rintro e1 k5;have h9:decide (x.mem=x.mem)=true:=Vc
  rw[h9];have K5:=Z (K4.trans k5);have k0:=Z (k5.own j bW);have H5:=Z (d.kp (X':=one g) K5 (λb A=> Yp (by unfold one at A;omega)));have w7:=k5.size;have T:=H5.l.az;obtain⟨W,-⟩:=ae T;rw[<-m.out]at W;have w8:=d.le;clear k5 h7 h8 T;go_wp2_with fail;rw[m.out];refine(H5.bytes (jw k0 (VB _)) Y (λb A=>by unfold one at A;omega) (qW d (λb A=>by obtain rfl :=Dt A;exact⟨U,Y⟩)) (λb A=>by obtain rfl :=Dt A;omega) Y).bw ?_;rintro w9⟨n6,v6,e0,k2,A,-⟩;have HF:=Z (show eR i w S (zx S) (Yq (Yt Yk)) w9 from⟨U,_,k2.kp (X':=no) (Kp.refl no _) (λ_ h=>h.elim),K5.any.trans A,U,⟨VI _ 1,VI _ _,VI _ _⟩,U,U,U⟩);clear k2 A W;go_wp2_with fail;go_ret;exact HF
def BR{P:Prop}(h:P:=by
 rw[<-hy]at vF sq;clear hvk hy;go_wp2_with fail;go_quiet(fail);go_wp2_with fail;go_roundw;case rel=>exact⟨q+1,Y,Vc,by go_num,HK.out.drewN _⟩
 case measure=>simp[intOf];omega):P:=h
def BS{w:Yw}{S:gI}(h:gB t w no S)(h6:0<S.ed.length)(hc:S.nv<=100000000)(a b c:Int)(h7: -9223372036854775808<=a)(h8:a<=9223372036854775807)(e:Option Addr)(J K:Nat)(N:Option Addr)(P R:Nat):
  Yy prog 62 #[aj S.wb,BI 8 a b c (Q e J K) (Q N P R)] w (eR t w S (zx S)):=by
 have w1:S.ed.length<=4:=h.l.i4;obtain⟨k,hk,T⟩:=jz h7 h8 h6 Y;obtain⟨x,l⟩:∃x,S.ed[k]?=M x:=⟨_,Vj hk⟩;obtain⟨aM,oM,cM,hv,c0,c1⟩:=h.aax l;have m:=h.l.az;unfold hJ at m;rw[hv]at m;have d:=Z h;have HP:=Z T;have h9:=Z l;have HB:=Z m;have k0:=au h.l.az;obtain⟨wb,n⟩:=bL S.wb;rw[<-n]at k0 HB⊢;clear h T l m hv;change Hid _ at n;go_enter func62,ntmps62;have k1:Kp no w (w.alloc (Yl #[V O 8,V O a,V O b,V O c,Q e J K,Q N P R] 93)):=oO;have xp:=ai w (Yl #[V O 8,V O a,V O b,V O c,Q e J K,Q N P R] 93);obtain⟨k2,-⟩:=ae (k1.az HB id);go_wp2_with fail;generalize w.alloc (Yl #[V O 8,V O a,V O b,V O c,Q e J K,Q N P R] 93)=wq at *;obtain⟨Sx,sk⟩:=bL (λf=>(∀q,f.cell? ⟨wb,q,H⟩=#[S.mv,S.sv,Q (M ⟨aM,oM,H⟩) S.ed.length cM,V O S.n,S.bv,S.vv,S.kv,Yt S.tr][q]?)/\(∀q,f.cell? ⟨w.heap.size,q,H⟩=#[V O 8,V O a,V O b,V O c,Q e J K,Q N P R][q]?)/\f.cell? ⟨aM,oM+k*2,H⟩=M (aj x.ib)/\f.cell? ⟨aM,oM+k*2+1,H⟩=M (ptr x.xb):Yw->Prop);have X:∀W,Kp no wq W->Sx W:=λW kk=>by
  exact jV
 have BQ:=Z X;have MO:=Z sk;have K1:=Z k1;have w2:=Z xp;have w5:=au xp;clear X sk k1 xp k2 c0 c1;go_cut [8] (λp f=>p= Yv (M ⟨wq.heap.size,0,H⟩)/\f.heap[wq.heap.size]?=M (Yl #[aj x.ib,ptr x.xb] 154)/\Kp no wq f);case first =>exact pk
 case rest=>
  rename Yw=>w3
  obtain⟨rfl,B,k3⟩:=hcut;obtain⟨s,hs,l,W⟩:=d.inst h9;have f:=K1.trans k3;obtain⟨z1,z2,-⟩:=d.Dn hs l W f;have C:=Iw z1 z2;have h0:=f.az (show w.heap[x.xb]?=_ by have:=d.l.hp.dY (.ed k 1);rw[hs.iI]at this;exact this) id;have D:=d.l.hp.dY (.ed k 3);rw[hs.iI]at D;have p:aw w x.gv 1 x.gl.length (ay x.gl):=aw.own D;obtain⟨w6,w7,E,-⟩:=p.aJ;have k4:x.gl.length<=8:=by
   have g:=(l.Uo [] Vc).gl.len;have i:=(l.m.p.st [] Vc).gl.len;have j:=l.m.p.gn;simp only[VH]at g i;omega
  obtain⟨k5,-⟩:=ae B;have h1:=z2.az;have w8:=f.size;have w9:=k3.size;clear D k3 hs l W z1 z2 BQ MO;change Hid _ at E h1 B f;replace p:=Z p;change Hid _ at h0;replace C:=Z C;go_wp2_with fail;refine C.mono ?_;rintro r w4⟨⟨g,rfl,hg,j⟩,h2,k9⟩;have u:Kp no w3 w4:=k9.same h1 h2.az;have v:=u.az h0 id;rw[E.out]at v;have z:=u.az B id;obtain⟨h3,-⟩:=ae z;obtain⟨h4,-⟩:=ae v;have K4:=Z (f.trans u);have e0:=bR j (b:=g) U;have A:=aw.kp p K4 bW;rw[E.out]at A;obtain⟨L,I⟩:=bL x.gl.length;rw[<-I]at k4 h4⊢;obtain⟨ib,F⟩:=bL wq.heap.size;rw[<-F]at h3⊢;rw[<-F]at z;clear u k9 h2 k5 F;change Hid _ at I v z;replace A:=Z A;replace j:=Z j;go_wp2_with fail;go_loopw [5,10] (λo i wr=> ∃q:Nat,q<=L/\o= Yt Yk/\i= V O q/\Kp no w4 wr) (λ_ i _=>L - (intOf i).toNat);case atStart=>exact⟨0,Y,Vc,U,iR⟩
  case round=>
   obtain⟨q,hq,rfl,rfl,i⟩:=hrel;have HK:=Z i;obtain⟨k6,-⟩:=ae (i.az z id);have G:=i.az v id;rw[<-I.out]at G;obtain⟨k7,-⟩:=ae G;clear i h4 h3 G;by_cases e1:q<L
   .have k8:q<x.gl.length:=cj I.out;have hvk:(ay x.gl)[q]?=M (V Yr (x.gl.getD q 0)):=by simp[ay,Vj k8]
    obtain⟨a1,o1,c1,h5,_,vF⟩:=A.get hvk;obtain⟨a2,o2,c2,o,_,sq⟩:=(aw.own j).get hvk;simp only[Vz]at h5 o;obtain⟨rfl,-,rfl⟩:=h5;obtain⟨o,-,-⟩:=o;cases o;rw[Vv]at sq;replace vF:=HK.aY vF;replace sq:=HK.aY sq;obtain⟨y,hy⟩:=bL (x.gl.getD q 0);exact BR
   .have K5:=Z (K4.trans HK);have k8:=Z (HK.own j bW);have H5:=Z (d.kp (X':=one g) K5 (λb o=> Yp (by unfold one at o;omega)));have e2:=HK.size;have y:=H5.l.az;obtain⟨h5,-⟩:=ae y;rw[<-n.out]at h5;have e3:=d.le;clear y k6 k7;go_wp2_with fail;rw[n.out,I.out];refine(H5.aaq (jw k8 (VB _)) (cj I.out) (λb o=>by unfold one at o;omega) (qW d (λb o=>by obtain rfl :=Dt o;exact⟨U,Y⟩)) (λb o=>by obtain rfl :=Dt o;omega) Y).bw ?_;rintro e4⟨n6,v6,e5,w0,o,-⟩;have HF:=Z (show eR t w S (zx S) (Yq (Yt Yk)) e4 from⟨U,_,w0.kp (X':=no) (Kp.refl no _) (λ_ h=>h.elim),K5.any.trans o,U,⟨VI _ _,cQ,VI _ _⟩,U,U,U⟩);clear w0 o h5;go_wp2_with fail;go_ret;exact HF
def BT{w:Yw}{S:gI}(h:gB t w no S)(k0:0<S.iG.length)(hc:S.nk<=100000000)(a b c:Int)(k2: -9223372036854775808<=a)(k3:a<=9223372036854775807)(j:Option Addr)(N P:Nat)(R:Option Addr)(T X:Nat):
  Yy prog 62 #[aj S.wb,BI 9 a b c (Q j N P) (Q R T X)] w (eR t w S (zx S)):=by
 have w6:S.iG.length<=4:=h.l.s4;obtain⟨k,hk,h0⟩:=jz k2 k3 k0 Y;obtain⟨x,hx⟩:∃x,S.iG[k]?=M x:=⟨_,Vj hk⟩;obtain⟨aM,oM,cM,hv,c0,c1⟩:=h.TT hx;have s:=h.l.az;unfold hJ at s;rw[hv]at s;have d:=Z h;have HP:=Z h0;have HB:=Z s;have k4:=au h.l.az;obtain⟨wb,u⟩:=bL S.wb;rw[<-u]at k4 HB⊢;clear h h0 s hv;change Hid _ at hx u;go_enter func62,ntmps62;have k1:Kp no w (w.alloc (Yl #[V O 9,V O a,V O b,V O c,Q j N P,Q R T X] 93)):=oO;have xp:=ai w (Yl #[V O 9,V O a,V O b,V O c,Q j N P,Q R T X] 93);obtain⟨k5,-⟩:=ae (k1.az HB id);go_wp2_with fail;generalize w.alloc (Yl #[V O 9,V O a,V O b,V O c,Q j N P,Q R T X] 93)=wq at *;obtain⟨Sx,sk⟩:=bL (λe=>(∀q,e.cell? ⟨wb,q,H⟩=#[S.mv,Q (M ⟨aM,oM,H⟩) S.iG.length cM,S.iv,V O S.n,S.bv,S.vv,S.kv,Yt S.tr][q]?)/\(∀q,e.cell? ⟨w.heap.size,q,H⟩=#[V O 9,V O a,V O b,V O c,Q j N P,Q R T X][q]?)/\e.cell? ⟨aM,oM+k*2,H⟩=M (aj x.tb)/\e.cell? ⟨aM,oM+k*2+1,H⟩=M (ptr x.sb):Yw->Prop);have h1:∀W,Kp no wq W->Sx W:=λW kk=>by
  exact jV
 have BQ:=Z h1;have MO:=Z sk;have K1:=Z k1;have w7:=Z xp;have w8:=au xp;clear h1 sk k1 xp k5 c0 c1;go_cut [11] (λp e=>p= Yv (M ⟨wq.heap.size,0,H⟩)/\e.heap[wq.heap.size]?=M (Yl #[aj x.tb,ptr x.sb] 99)/\Kp no wq e);case first =>exact pk
 case rest=>
  rename Yw=>w3
  obtain⟨rfl,D,k6⟩:=hcut;have f:=d.l.rd.ss x (Vw hx);have sI:∀r,S.J (.iQ k r)=Dj x r:=λr=>by simp only[gI.J,hx.out]
  have g:=K1.trans k6;have E:w3.heap[x.tb]?=M (Yl #[V .i32 0,V .u32 0,.map x.p] 110):=g.az (by have:=d.l.hp.dY (.iQ k 0);rw[sI]at this;exact this) id;have F:=QO ⟨E,f.map.kp g bW,by rw[<-f.eq.len];have:=f.few;omega⟩;have W:=g.az (show w.heap[x.sb]?=_ by have:=d.l.hp.dY (.iQ k 1);rw[sI]at this;exact this) id;have G:=d.l.hp.dY (.iQ k 2);rw[sI]at G;have p:aw w x.kv 1 x.st.length (aQ (x.st.map (·.1))):=aw.own G;obtain⟨w9,e0,I,-⟩:=p.aJ;have k7:x.st.length<=8:=f.few;obtain⟨k8,-⟩:=ae D;have k9:=Z f.eq;have e1:=g.size;have e2:=k6.size;clear G k6 f sI BQ MO;change Hid _ at I E D g;replace p:=Z p;change Hid _ at W;replace F:=Z F;go_wp2_with fail;refine F.mono ?_;rintro r w4⟨⟨v,l,rfl,h2,e⟩,h3,w5⟩;obtain rfl :=k9.U3 h2;rw[VH]at e;obtain⟨h4,h5,rfl⟩:=aA e;have z:Kp no w3 w4:=w5.same E h3.az;have A:=z.az W id;rw[I.out]at A;have B:=z.az D id;obtain⟨h6,-⟩:=ae B;obtain⟨h7,-⟩:=ae A;have K4:=Z (g.trans z);have m:∀b,(Value.slice h4 x.st.length h5).ownBlock=M b->w.heap.size<=b/\b<w4.heap.size:=λb n=>cj (e.lt b n)
  have C:=aw.kp p K4 bW;rw[I.out]at C;obtain⟨L,K⟩:=bL x.st.length;rw[<-K]at k7 h7⊢;obtain⟨ib,J⟩:=bL wq.heap.size;rw[<-J]at h6⊢;rw[<-J]at B;clear z w5 h3 k8 J h2;change Hid _ at K A B;replace C:=Z C;change Hid _ at m;replace e:=Z e;go_wp2_with fail;go_loopw [5,13] (λo i wr=> ∃q:Nat,q<=L/\o= Yt Yk/\i= V O q/\Kp no w4 wr) (λ_ i _=>L - (intOf i).toNat);case atStart=>exact⟨0,Y,Vc,U,iR⟩
  case round=>
   obtain⟨q,hq,rfl,rfl,i⟩:=hrel;have HK:=Z i;obtain⟨w0,-⟩:=ae (i.az B id);have o:=i.az A id;rw[<-K.out]at o;obtain⟨w1,-⟩:=ae o;clear i h7 h6 o;by_cases e3:q<L
   .have w2:q<x.st.length:=cj K.out;have hvk:(aQ (x.st.map (·.1)))[q]?=M (V O ((x.st.map (·.1)).getD q 0)):=by simp[aQ,Vj w2]
    obtain⟨a1,o1,c1,h8,_,vF⟩:=C.get hvk;obtain⟨a2,o2,c2,h9,_,sq⟩:=(aw.own e).get hvk;simp only[Vz]at h8 h9;obtain⟨rfl,-,rfl⟩:=h8;obtain⟨rfl,-,rfl⟩:=h9;replace vF:=HK.aY vF;replace sq:=HK.aY sq;obtain⟨y,hy⟩:=bL ((x.st.map (·.1)).getD q 0);exact BR
   .have K5:=Z (K4.trans HK);have h9:=Z (HK.own e bW);have H5:=Z (d.kp (X':=λb=>(Value.slice h4 x.st.length h5).ownBlock=M b) K5 (λb n=> Yp (m b n).1));have e4:=HK.size;have y:=H5.l.az;obtain⟨h8,-⟩:=ae y;rw[<-u.out]at h8;have e5:=d.le;clear y w0 w1;go_wp2_with fail;rw[u.out,K.out];refine(H5.bG (jw h9 (VB _)) (cj K.out) (λb n=>cj ((m b n).2)) (qW d (λb n=>⟨n,(m b n).1⟩)) (λb n=>cj ((m b n).1)) Y).bw ?_;rintro e6⟨n6,v6,e7,w2,n,-⟩;have HF:=Z (show eR t w S (zx S) (Yq (Yt Yk)) e6 from⟨U,_,w2.kp (X':=no) (Kp.refl no _) (λ_ h=>h.elim),K5.any.trans n,U,⟨VI _ _,VI _ _,cQ⟩,U,U,U⟩);clear w2 n h8;go_wp2_with fail;go_ret;exact HF
theorem eR.pre{w wq w':Yw}{S:gI}{P:gI->Prop}{r:Ending}(h:eR i wq S P r w')(k:Kp no w wq):eR i w S P r w':=by
 obtain⟨a,b,c,d,e⟩:=h;exact⟨a,b,c,k.any.trans d,e⟩
def eR.weak{w w':Yw}{S:gI}{P b:gI->Prop}{r:Ending}(h:eR i w S P r w')(c:∀a,P a->b a):eR i w S b r w':=by
 obtain⟨d,a,e,f,g,j,k⟩:=h;exact⟨d,a,e,f,g,j,c a k⟩
def BU{w:Yw}{S:gI}(h:gB i w no S)(o:Rf.eJ w v D)(j:∀b,Rf.B7 v D=M b->b<w.heap.size)(p:D.length<=2000000)(a b c:Int)(k:Option Addr)(l m:Nat):
  Yy prog 42 #[aj S.wb,BI 1 a b c v (Q k l m)] w (eR i w S λd=> ∀f,iE D= Yn f->S.eZ.length<4->d.eZ.length=S.eZ.length+1):=by
 obtain⟨e,f,rfl,q⟩:=o.aJ;have d:=Z h;clear h;go_enter func42,ntmps42;go_wp2_with fail;have g:Kp no w (w.alloc (Yl #[V O 1,V O a,V O b,V O c,Q e D.length f,Q k l m] 93)):=oO;generalize w.alloc (Yl #[V O 1,V O a,V O b,V O c,Q e D.length f,Q k l m] 93)=t at *;have u:=g.size;refine(Iu (d.kp (X':=no) g (λb h=>h.elim)) (o.kp g bW) (λb s=>cj (j b s)) p).mono ?_;rintro r x n;obtain rfl :=n.1;have s:=n.pre g;clear n g;go_wp2_with fail;go_ret;exact s
def lF{w:Yw}{S:gI}(h:gB t w no S){kd:Int}(z:(kd=7\/kd=8)/\0<S.ed.length\/kd=9/\0<S.iG.length)(a b c:Int)(g:Option Addr)(n o:Nat)(p:Option Addr)(q s:Nat)(y:∀W,gB t W no S->Yy prog 62 #[aj S.wb,BI kd a b c (Q g n o) (Q p q s)] W (eR t W S (zx S))):
  Yy prog 42 #[aj S.wb,BI kd a b c (Q g n o) (Q p q s)] w (eR t w S (zx S)):=by
 obtain⟨A,B,k⟩:=aA (h.l.l4 (i:=.law 2) U);obtain⟨C,D,l⟩:=aA (h.l.l4 (i:=.law 3) U);have e:=h.l.az;unfold hJ at e;rw[k,l]at e;have d:=Z h;obtain⟨G,j⟩:=bL S.wb;rw[<-j]at e⊢;obtain⟨I,f⟩:=uh (w.alloc (Yl #[V O kd,V O a,V O b,V O c,Q g n o,Q p q s] 93));have m:=(Kp.refl no w).alloc (Yl #[V O kd,V O a,V O b,V O c,Q g n o,Q p q s] 93);obtain⟨u,-⟩:=ae (m.az e id);have v:=Z f;clear h e k l f;change Hid _ at y j;rcases z with⟨rfl |rfl,E⟩|⟨rfl,E⟩
 all_goals
  go_enter func42,ntmps42;go_wp2_with fail;have f:=v.out;rw[f]at m⊢;rw[j.out];refine(y _ (d.kp (X':=no) m (λb h=>h.elim))).mono ?_;rintro r J x;obtain rfl :=x.1;have F:=Z (x.pre m);clear x m u f;go_wp2_with fail;go_ret;exact F
theorem Iz{w:Yw}{S:gI}(h:gB i w no S)(B:0<S.eZ.length)(a b c:Int)(C: -9223372036854775808<=a)(D:a<=9223372036854775807)(e:Option Addr)(n o:Nat)(s:Option Addr)(t u:Nat):
  Yy prog 42 #[aj S.wb,BI 2 a b c (Q e n o) (Q s t u)] w (eR i w S λd=>d=S):=by
 have h0:S.eZ.length<=4:=h.l.m4;obtain⟨k,hk,v⟩:=jz C D B Y;obtain⟨x,E⟩:∃x,S.eZ[k]?=M x:=⟨_,Vj hk⟩;obtain⟨F,G,cM,hv,c0,c1⟩:=h.aaw E;have f:=h.l.az;unfold hJ at f;rw[hv]at f;have HP:=Z v;have HB:=Z f;have I:=au h.l.az;obtain⟨wb,y⟩:=bL S.wb;rw[<-y]at I HB⊢;clear v f hv;change Hid _ at h E y;go_enter func42,ntmps42;have k1:Kp no w (w.alloc (Yl #[V O 2,V O a,V O b,V O c,Q e n o,Q s t u] 93)):=oO;have xp:=ai w (Yl #[V O 2,V O a,V O b,V O c,Q e n o,Q s t u] 93);obtain⟨J,-⟩:=ae (k1.az HB id);go_wp2_with fail;generalize w.alloc (Yl #[V O 2,V O a,V O b,V O c,Q e n o,Q s t u] 93)=wq at *;obtain⟨Sx,sk⟩:=bL (λg=>(∀q,g.cell? ⟨wb,q,H⟩=#[Q (M ⟨F,G,H⟩) S.eZ.length cM,S.sv,S.iv,V O S.n,S.bv,S.vv,S.kv,Yt S.tr][q]?)/\(∀q,g.cell? ⟨w.heap.size,q,H⟩=#[V O 2,V O a,V O b,V O c,Q e n o,Q s t u][q]?)/\g.cell? ⟨F,G+k*2,H⟩=M (aj x.x)/\g.cell? ⟨F,G+k*2+1,H⟩=M (ptr x.y):Yw->Prop);have d:∀W,Kp no wq W->Sx W:=λW kk=>by
  exact jV
 have BQ:=Z d;have MO:=Z sk;have h1:=Z xp;have h2:=au xp;clear d sk xp J c0 c1;go_cut [5] (λp j=>p= Yv (M ⟨wq.heap.size,0,H⟩)/\j.heap[wq.heap.size]?=M (Yl #[aj x.x,ptr x.y] 144)/\Kp no wq j);case first =>exact pk
 case rest=>
  rename Yw=>w3
  obtain⟨rfl,p,k3⟩:=hcut;have A:=h.l.rd.ms x (Vw E);obtain⟨-,tv,fv,gv,L,z,N,P,rfl,R,-⟩:=A.y;have T:=A.p.n16;have j:=k1.trans k3;have l:=j.az z id;have X:=Z (A.x.kp j.any);obtain⟨nf,m⟩:=bL x.f.funcs.length;rw[<-m]at l T R;obtain⟨Sy,sk⟩:=bL (λg=>(∀q,g.cell? ⟨wq.heap.size,q,H⟩=#[aj x.x,ptr x.y][q]?)/\(∀q,g.cell? ⟨x.y,q,H⟩=#[tv,Q N nf P,gv,L][q]?):Yw->Prop);have d:∀W,Kp no w3 W->Sy W:=λW kk=>by
   rw[sk];exact⟨(ae (kk.az p id)).1,(ae (kk.az l id)).1⟩
  have g:=Z sk;clear sk p l k3 z A BQ MO;change Hid _ at m d;go_wp2_with fail;refine rj 11 11 (Sy) ?hS λhS=>?_
  case hS=>exact d _ fL
  have sk:=g.out;subst sk;refine tj 0 ?_;refine tj 1 ?_;refine tj 3 ?_;iterate 5 refine tn ?_
  refine oj 2 λK q=>?_
  refine sc (qK (X.kp (((Kp.refl no w3).drew).any))) ?_;rintro r W⟨rfl,rfl⟩;rw[<-m.out];refine⟨_,U,q _ _ (d _ fL) (λhS=>?_)⟩;clear q K;simp only[pS];refine tj 9 ?_;refine tj 10 ?_;refine dj ?_;go_wp2_with fail;go_ret;simp only[beq_self_eq_true];exact h.Ir j.drew U
def MP{w:Yw}{S:gI}(h:gB i w no S)(t:0<S.eZ.length)(N:S.nb<=100000000)(a b c:Int)(u: -9223372036854775808<=a)(v:a<=9223372036854775807)(e:Option Addr)(l m:Nat)(n:Option Addr)(o p:Nat):
  Yy prog 42 #[aj S.wb,BI 3 a b c (Q e l m) (Q n o p)] w (eR i w S λ_=>True):=by
 have P:=h.l.m4;obtain⟨k,R,s⟩:=jz u v t Y;obtain⟨x,y⟩:∃x,S.eZ[k]?=M x:=⟨_,Vj R⟩;obtain⟨z,A,T,E,c0,c1⟩:=h.aaw y;have f:=h.l.az;unfold hJ at f;rw[E]at f;have d:=Z h;have HB:=Z f;have B:=au h.l.az;obtain⟨X,g⟩:=bL S.wb;rw[<-g]at B HB⊢;clear h f E;change Hid _ at s y g;go_enter func42,ntmps42;have k1:Kp no w (w.alloc (Yl #[V O 3,V O a,V O b,V O c,Q e l m,Q n o p] 93)):=oO;have xp:=ai w (Yl #[V O 3,V O a,V O b,V O c,Q e l m,Q n o p] 93);obtain⟨C,-⟩:=ae (k1.az HB id);go_wp2_with fail;generalize w.alloc (Yl #[V O 3,V O a,V O b,V O c,Q e l m,Q n o p] 93)=w1 at *;obtain⟨F,sk⟩:=bL (λj=>(∀q,j.cell? ⟨X,q,H⟩=#[Q (M ⟨z,A,H⟩) S.eZ.length T,S.sv,S.iv,V O S.n,S.bv,S.vv,S.kv,Yt S.tr][q]?)/\(∀q,j.cell? ⟨w.heap.size,q,H⟩=#[V O 3,V O a,V O b,V O c,Q e l m,Q n o p][q]?)/\j.cell? ⟨z,A+k*2,H⟩=M (aj x.x)/\j.cell? ⟨z,A+k*2+1,H⟩=M (ptr x.y):Yw->Prop);have j:∀W,Kp no w1 W->F W:=λW kk=>by
  exact jV
 have D:=Z sk;clear sk xp C c0 c1;change Hid _ at j;refine rj 17 19 (F) ?hS λhS=>?_
 case hS=>exact j _ fL
 have sk:=D.out;subst sk;refine tj 0 ?_;iterate 11 refine tn ?_
 refine tj 15 ?_;refine tj 16 ?_;refine oj 12 λK q=>?_
 refine sc (s _) ?_;rintro r w2⟨rfl,rfl⟩;refine⟨_,U,q _ _ (j _ fL) (λhS=>?_)⟩;simp only[pS];refine tj 13 ?_;refine tj 14 ?_;refine ej 17 λK q=>?_
 have G:=k1.drew;have I:=d.kp (X':=no) G (λ_ h=>h.elim);have J:=MJ I (I.l.rd.ms x (Vw y)) b N;rw[<-g.out]at J;refine sc J ?_;rintro r w3 L;obtain rfl :=L.1;have W:=Z (L.pre G);refine⟨_,U,q _ _ ?_⟩;simp only[pS];refine ej 18 λK q=>?_
 go_simp;refine q _ _ ?_;refine dj ?_;go_wp2_with fail;go_ret;exact W
def IA{w:Yw}{S:gI}(h:gB t w no S)(A:0<S.ed.length)(a b c:Int)(B: -9223372036854775808<=a)(C:a<=9223372036854775807)(f:Option Addr)(m n:Nat){args:List Int}(s:jU w u args)(o:∀b,Ic u args=M b->RO w no S.J b)(R:∀v∈args,0<=v/\v<18446744073709551616)(D:args.length<=2000000):
  Yy prog 42 #[aj S.wb,BI 6 a b c (Q f m n) u] w (eR t w S λ_=>True):=by
 obtain⟨v,y,rfl,-⟩:=s.aJ;change Hid _ at o R;replace s:=Z s;have h0:=h.l.i4;obtain⟨k,hk,p⟩:=jz B C A Y;obtain⟨x,E⟩:∃x,S.ed[k]?=M x:=⟨_,Vj hk⟩;obtain⟨F,G,cM,T,c0,c1⟩:=h.aax E;have g:=h.l.az;unfold hJ at g;rw[T]at g;have d:=Z h;have HB:=Z g;have J:=au h.l.az;obtain⟨wb,j⟩:=bL S.wb;rw[<-j]at J HB⊢;clear h g T;change Hid _ at p E j;go_enter func42,ntmps42;have k1:Kp no w (w.alloc (Yl #[V O 6,V O a,V O b,V O c,Q f m n,Q v args.length y] 93)):=oO;have xp:=ai w (Yl #[V O 6,V O a,V O b,V O c,Q f m n,Q v args.length y] 93);obtain⟨L,-⟩:=ae (k1.az HB id);go_wp2_with fail;generalize w.alloc (Yl #[V O 6,V O a,V O b,V O c,Q f m n,Q v args.length y] 93)=w1 at *;obtain⟨Sx,sk⟩:=bL (λw'=>(∀q,w'.cell? ⟨wb,q,H⟩=#[S.mv,S.sv,Q (M ⟨F,G,H⟩) S.ed.length cM,V O S.n,S.bv,S.vv,S.kv,Yt S.tr][q]?)/\(∀q,w'.cell? ⟨w.heap.size,q,H⟩=#[V O 6,V O a,V O b,V O c,Q f m n,Q v args.length y][q]?)/\w'.cell? ⟨F,G+k*2,H⟩=M (aj x.ib)/\w'.cell? ⟨F,G+k*2+1,H⟩=M (ptr x.xb):Yw->Prop);have l:∀W,Kp no w1 W->Sx W:=λW kk=>by
  exact jV
 have N:=Z sk;clear sk xp L c0 c1;change Hid _ at l;refine rj 16 18 (Sx) ?hS λhS=>?_
 case hS=>exact l _ fL
 have sk:=N.out;subst sk;refine tj 0 ?_;iterate 11 refine tn ?_
 refine tj 15 ?_;refine oj 12 λK q=>?_
 refine sc (p _) ?_;rintro r w2⟨rfl,rfl⟩;refine⟨_,U,q _ _ (l _ fL) (λhS=>?_)⟩;simp only[pS];refine tj 13 ?_;refine tj 14 ?_;refine ej 16 λK q=>?_
 have z:=k1.drew;have W:=d.kp (X':=no) z (λ_ h=>h.elim);have P:=RO.on (w:=w) (w':=w1.drew) (X:=no) (X':=no) (I:=S.J) (I':=S.J) z.size (λi b e=> Yo ⟨i,e⟩) (λb h=>h.elim);have e:=Iv W E 6 a b c f m n (s.kp z bW) (λb i=>P b (o b i)) R D;rw[<-j.out]at e;refine sc e ?_;rintro r w3 i;obtain rfl :=i.1;have HF:=Z (i.pre z);refine⟨_,U,q _ _ ?_⟩;simp only[pS];refine ej 17 λK q=>?_
 go_simp;refine q _ _ ?_;refine dj ?_;go_wp2_with fail;go_ret;exact HF
end
section
open Go.RowKit Go.MuLone
open Go.Maps (Keyed)
open Rf (ptr bh)
def ug{P:Program}(w:Yw){c:Array Oper}{rest:List Oper}{o:Oper}{a:Act}{b:Exit->Act->Yw->Prop}(j:o.guard=H)(m x:Operand)(t:TypeId)(f:o.op=Op.lookup t m x Yk)
  (k e:TypeId)(K:Keyed P k)(l:P.underlying t=M (.map k e))(n:(zeroValue e).run P w=.ok z w)(p:a.eval m=.map H)(d:Yx)(q:Lit)(r:a.eval x=d)(g:keyOf P k d=M q)
  (s:wpList P c b rest (a.put o.dst (Yu #[z,Yt Yj])) w):wpList P c b (o::rest) a w:=by
 refine wpList_plain j λu h=>?_
 have i:=Maps.look_nil (w:=w) Yk K l n g;unfold Oper.wp;simp[execOp,f,p,r,i,Result.andThen];exact h _ _ s
def TU{w:Yw}{c:List (Int×Int)}(d:dr w i H c)(k:Int)(q: -9223372036854775808<=k)(s:k<9223372036854775808):
  df 37 #[aj i,V O k] w (Yu #[V O 0,Yt Yj]) λb=>dr b i H c/\Kp (one i) w b:=by
 have a:=d.az;obtain⟨e,g⟩:=ae a;have t:=au a;have j:=QM k q s;have n:Kp (one i) w (w.setCell ⟨i,0,H⟩ (V .i32 1)):=(Kp.refl _ w).bK 0 _;have b:(w.setCell ⟨i,0,H⟩ (V .i32 1)).heap[i]?=M (Yl #[V .i32 1,V .u32 0,.map H] 110):=heap_setCell a _;clear a;go_enter_defers func37,ntmps37;go_wp2_with fail;refine(lock_free nR ⟨i,0,H⟩ _ (e 0) (g 0)).bw ?_;rintro u o;rw[o];clear o u;obtain⟨v,h⟩:=bL (w.setCell ⟨i,0,H⟩ (V .i32 1));rw[<-h]at b n⊢;clear h;obtain⟨l,m⟩:=ae b;clear e g;go_wp2_with(at_lookup;refine ug _ U _ _ 108 U 2 2 gf underlying108 (ve _) U _ _ U j ?_);go_wp2_with fail;refine leaves_cons (f:=48) (args:=#[Yv (M ⟨i,0,H⟩)]) Vc (by simp[go_sem]) ?_;refine(unlock_deferred nR ⟨i,0,H⟩ .returning _ (l 0) (m 0)).mono ?_;rintro r x y⟨rfl,rfl,rfl⟩;have p:Kp (one i) w (v.setCell ⟨i,0,H⟩ (V .i32 0)):=n.bK 0 _;exact⟨_,results_tmp2 U _ _ _,U,⟨heap_setCell b _,d.map.kp p (d.map.ne d.az),d.few⟩,p⟩
def TV{w:Yw}{p:Option Nat}{a:List (Int×Int)}(c:dr w i p a)(k:Int)(d: -9223372036854775808<=k)(f:k<9223372036854775808):
  df 37 #[aj i,V O k] w (Yu #[V O ((look a k).getD 0),Yt (look a k).isSome]) λb=>dr b i p a/\Kp (one i) w b:=by
 cases p with
 |some b=>grind[TS]
 |none=>
  rcases c.map with⟨-,e⟩|⟨b,e,-⟩
  .subst e;exact TU c k d f
  .cases e
theorem FL{w:Yw}{S:gI}(h:gB i w no S)(L:0<S.iG.length)(a b c:Int)(N: -9223372036854775808<=b)(h5:b<=9223372036854775807)(P: -9223372036854775808<=a)(R:a<=9223372036854775807)(e:Option Addr)(s t:Nat)(u:Option Addr)(v A:Nat):
  Yy prog 42 #[aj S.wb,BI 10 a b c (Q e s t) (Q u v A)] w (eR i w S λd=>d=S):=by
 have h6:S.iG.length<=4:=h.l.s4;obtain⟨k,hk,B⟩:=jz P R L Y;obtain⟨x,K⟩:∃x,S.iG[k]?=M x:=⟨_,Vj hk⟩;obtain⟨T,X,cM,hv,c0,c1⟩:=h.TT K;have g:=h.l.az;unfold hJ at g;rw[hv]at g;have HP:=Z B;have HB:=Z g;have h0:=au h.l.az;obtain⟨wb,C⟩:=bL S.wb;rw[<-C]at h0 HB⊢;clear B g hv;change Hid _ at h K C;go_enter func42,ntmps42;have k1:Kp no w (w.alloc (Yl #[V O 10,V O a,V O b,V O c,Q e s t,Q u v A] 93)):=oO;have xp:=ai w (Yl #[V O 10,V O a,V O b,V O c,Q e s t,Q u v A] 93);obtain⟨h1,-⟩:=ae (k1.az HB id);go_wp2_with fail;generalize w.alloc (Yl #[V O 10,V O a,V O b,V O c,Q e s t,Q u v A] 93)=wq at *;obtain⟨Sx,sk⟩:=bL (λd=>(∀q,d.cell? ⟨wb,q,H⟩=#[S.mv,Q (M ⟨T,X,H⟩) S.iG.length cM,S.iv,V O S.n,S.bv,S.vv,S.kv,Yt S.tr][q]?)/\(∀q,d.cell? ⟨w.heap.size,q,H⟩=#[V O 10,V O a,V O b,V O c,Q e s t,Q u v A][q]?)/\d.cell? ⟨T,X+k*2,H⟩=M (aj x.tb)/\d.cell? ⟨T,X+k*2+1,H⟩=M (ptr x.sb):Yw->Prop);have D:∀W,Kp no wq W->Sx W:=λW kk=>by
  exact jV
 have BQ:=Z D;have MO:=Z sk;have W:=Z xp;have h7:=au xp;clear D sk xp h1 c0 c1;go_cut [11] (λp d=>p= Yv (M ⟨wq.heap.size,0,H⟩)/\d.heap[wq.heap.size]?=M (Yl #[aj x.tb,ptr x.sb] 99)/\Kp no wq d);case first =>exact pk
 case rest=>
  rename Yw=>w3
  obtain⟨rfl,j,k3⟩:=hcut;have d:=h.l.rd.ss x (Vw K);have sI:∀r,S.J (.iQ k r)=Dj x r:=λr=>by simp only[gI.J,K.out]
  have m:=k1.trans k3;have n:w3.heap[x.tb]?=M (Yl #[V .i32 0,V .u32 0,.map x.p] 110):=m.az (by have:=h.l.hp.dY (.iQ k 0);rw[sI]at this;exact this) id;have f:=TV ⟨n,d.map.kp m bW,by rw[<-d.eq.len];have:=d.few;omega⟩ b N Y;have o:Rp w x.sb x.st:=by
   have l:=h.l.hp.dY (.iQ k 1);have p:=h.l.hp.dY (.iQ k 2);have q:=h.l.hp.dY (.iQ k 3);rw[sI]at l p q;exact⟨x.kv,x.vv,l,aw.own p,aw.own q⟩
  have p:=d.eq.get b;have q:x.st.length<=1000:=cj d.few;obtain⟨o1,E⟩:=bL (look x.bG b);rw[<-E]at f p;have r:=k3.az W id;obtain⟨F,-⟩:=ae j;obtain⟨h2,-⟩:=ae r;obtain⟨ib,G⟩:=bL wq.heap.size;rw[<-G]at F j⊢;obtain⟨y,hy⟩:=bL (o1.getD 0);obtain⟨z,hz⟩:=bL o1.isSome;rw[<-hy,<-hz]at f;have I:=Z (And.intro hy hz);clear k3 d sI BQ MO E G hy hz;replace q:=Z q;change Hid _ at p;replace o:=Z o;change Hid _ at n j r;replace f:=Z f;go_wp2_with fail;refine f.bw ?_;rintro w4⟨J,k4⟩;have l:Kp no w3 w4:=k4.same n J.az;have K4:=m.trans l;obtain⟨h3,-⟩:=ae (l.az j id);obtain⟨h4,-⟩:=ae (l.az r id);clear J k4 F h2 l;go_wp2_with fail;refine(Nr (o.kp K4) b q).bw ?_;rintro w5 k5;rw[p.out,<-I.1,<-I.2];have K5:=K4.trans k5;clear k5 h3 h4;go_wp2_with fail;go_ret;simp;exact h.Ir K5 U
end
section
open Go.RowKit
open Rf (ptr bh)
def FM:∃i z,Tryz.prog.info? 99=M i/\i.zero=M z/\i.size=2/\i.bytes=16/\z.cells.size=2:=nT Vf
def JP{W:Yw}{cs:Array Yx}{t:TypeId}(a:i=W.heap.size):aw (W.alloc (Yl cs t)) (Q (M ⟨i,0,H⟩) 1 1) cs.size 1 cs.toList:=by
 grind[Gn]
def MQ:lY [] []:=⟨List.Pairwise.nil,U,λk=>Vg⟩
def aay{a:Type}{l:List a}{y:a}(b:i≠l.length):(l++[y])[i]?=l[i]? :=by
 grind
abbrev st0(tb sb:Nat):St:=⟨tb,sb,H,[],[],Q H 0 0,Q H 0 0⟩
def gB.adj{w w':World}{S:gI}{sb:Nat}(h:gB a w (λb=>b=t\/b=sb) S){v':Value}(k:Kp (λb=>b=S.wb\/S.sv.ownBlock=some b) w w')
  (c:w'.heap[S.wb]?=some (.cells #[S.mv,v',S.iv,.int .i64 S.n,S.bv,S.vv,S.kv,.bool S.tr] 90))(p:w'.ownsRow 0 99 2 v' (S.iG.length+1) ((S.iG.flatMap λs=>[aj s.tb,ptr s.sb])++[aj t,ptr sb]))(q:Mv w S.sv v')(J:S.iG.length<4)
  (u:w.heap[t]?=some (.cells #[.int .i32 0,.int .u32 0,.map none] 110))(d:w.heap[sb]?=some (.cells #[.slice none 0 0,.slice none 0 0] 96))(v:t≠sb)(l:∀i b,b=t\/b=sb->(S.J i).az≠some b)(K:a<=t/\a<=sb):
  gB a w' no {S with iG:=S.iG++[st0 t sb],sv:=v'}:=by
 have z:∀b,(b=t\/b=sb)->b<w.heap.size:=λb c=>by
  grind
 have n:∀{b o},(b=t\/b=sb)->w.heap[b]?=some o->w'.heap[b]?=some o:=λc A=>k.az A (λe=>by
  rcases e with e|e
  .exact l (.law 0) _ c (by rw[e];rfl)
  .exact l (.law 2) _ c e)
 have B:∀r,({S with iG:=S.iG++[st0 t sb],sv:=v'}:gI).J (.iQ S.iG.length r)=Dj (st0 t sb) r:=λr=>by
  simp_all[gI.J]
 have L:∀r b,(Dj (st0 t sb) r).az=some b->(r=0/\b=t)\/(r=1/\b=sb):=λr b c=>by
  match r,c with
  |0,c=>exact .inl ⟨U,(Vr c).symm⟩
  |1,c=>exact .inr ⟨U,(Vr c).symm⟩
  |2,c=>cases c
  |3,c=>cases c
  |_+4,c=>cases c
 obtain⟨C,f,g,D⟩:=h.l.grow (S':={S with iG:=S.iG++[st0 t sb],sv:=v'}) (o:=2) (λi=> ∃r,i=.iQ S.iG.length r) Vb k U U c (by show Wt.row _ _ _ _ _=Wt.row _ _ _ _ _;simp) p q (λi N P R=>by
   cases i with
   |law j=>match j with
    |0=>grind
    |1=>rfl
    |2=>grind
    |3=>rfl
    |4=>rfl
    |5=>rfl
    |6=>rfl
    |_+7=>rfl
   |iQ j r=>
    simp_all[aay,gI.J]
   |ed j r=>rfl) (λi hi=>Ve) (λi hi=>by
   obtain⟨r,rfl⟩:=hi;rw[B];match r with
   |0=>exact n (.inl U) u
   |1=>exact n (.inr U) d
   |2=>exact World.ownsRow_nil _ _ _ _
   |3=>exact World.ownsRow_nil _ _ _ _
   |_+4=>trivial) (λi b hi e=>by
   grind) (λi T b hi E e W=>by
   grind) z
 refine⟨⟨C,⟨h.l.rd.tab.on f g,h.l.rd.t2.kp f (λF=>F h.l.rd.r2),g _ h.l.rd.r2,λm G=>(h.l.rd.ms m G).on f g,λs d=>?_,λx I=>((h.l.rd.is x I).on f g).iG (λj y X=>⟨y,?_,U,U⟩),h.l.rd.b.on f g,h.l.rd.v.on f g,h.l.rd.k.on f g⟩,h.l.m4,Ve,h.l.i4,h.l.n0⟩,λi b e=>?_,Ve⟩
 .rcases VS.1 d with d|d
  .exact(h.l.rd.ss s d).on f g
  .rw[Wv]at d;rw[d];exact⟨.inl ⟨U,U⟩,(λb c=>by cases c),MQ,Vc⟩
 .grind
 .rcases D i b e with⟨j,e⟩|e|e
  .exact h.up j b e
  .omega
  grind
def IB{w:World}{S:gI}(h:gB t w no S)(a b c:Int)(C:Option Addr)(ns cs:Nat)(al:Option Addr)(nl cl:Nat):
  Calls prog 42 #[aj S.wb,BI 4 a b c (.slice C ns cs) (.slice al nl cl)] w (eR t w S λ_=>True):=by
 have d:=Z h;have h0:=au h.l.az;obtain⟨p,j⟩:=bL S.wb;rw[<-j]at h0⊢;clear h;change Hid _ at j;go_enter func42,ntmps42;go_wp2_with fail;have k1:Kp no w (w.alloc (.cells #[.int .i64 4,.int .i64 a,.int .i64 b,.int .i64 c,.slice C ns cs,.slice al nl cl] 93)):=oO;generalize w.alloc (.cells #[.int .i64 4,.int .i64 a,.int .i64 b,.int .i64 c,.slice C ns cs,.slice al nl cl] 93)=w1 at *;refine(Db w1).bw ?_;rintro f⟨r,k4⟩;have s:=k1.trans k4;have k5:=k1.size;have X:=d.kp (X':=no) s (λ_ h=>h.elim);have g:=X.l.az;have k:=X.l.l4 (i:=.law 2) U;obtain⟨v,x,l⟩:=aA k;unfold hJ at g;rw[l,<-j.out]at g;rw[l]at k;obtain⟨G,h1⟩:=ae g;obtain⟨L,hL⟩:=bL S.iG.length;obtain⟨y,D⟩:=bL w1.heap.size;have h2:=X.l.s4;rw[<-hL]at G h2 k l g;rw[<-D]at r⊢;have h3:=Z r.az;have k6:=s.size;have k7:=au r.az;clear r k1 k4 X;change Hid _ at l g hL D;replace k:=Z k;obtain⟨j1,z1,h4,h5,h6,h7,h8⟩:=FM;by_cases k8:L<4
 .have h9:∀o q,(f.alloc o).cell? ⟨p,q,none⟩=#[S.mv,.slice v L x,S.iv,.int .i64 S.n,S.bv,S.vv,S.kv,.bool S.tr][q]? :=λo q=>(ae (ah g)).1 q
  go_wp2_with(at_builtin;refine bj _ U _ _ 82 U 0 99 j1 z1 2 16 underlying82 h4 h5 h6 h7 h8 Vb _ _ _ U ((k.alloc _).alloc _) _ 1 [aj y,aj f.heap.size] U (JP (cs:=#[aj y,aj f.heap.size]) Vc) ?m2 ?m3 ?m4 (VB _) ?_);case m2=>intro u hu;simp at hu;rcases hu with rfl |rfl <;>rfl
  case m3=>unfold maxLen;omega
  case m4=>omega
  intro v5 w5 q I J;obtain⟨m,n,rfl⟩:=aA q;have z:Kp no f ((f.alloc (.cells #[.slice none 0 0,.slice none 0 0] 96)).alloc (.cells #[aj y,.pointer (some ⟨f.heap.size,0,none⟩)] 99)):=((Kp.refl _ _).alloc _).alloc _;have K:((f.alloc (.cells #[.slice none 0 0,.slice none 0 0] 96)).alloc (.cells #[aj y,.pointer (some ⟨f.heap.size,0,none⟩)] 99)).heap[f.heap.size]?=some (.cells #[.slice none 0 0,.slice none 0 0] 96):=ah (ai f _);have N:((f.alloc (.cells #[.slice none 0 0,.slice none 0 0] 96)).alloc (.cells #[aj y,.pointer (some ⟨f.heap.size,0,none⟩)] 99)).heap.size=f.heap.size+1+1:=Vc
  generalize(f.alloc (.cells #[.slice none 0 0,.slice none 0 0] 96)).alloc (.cells #[aj y,.pointer (some ⟨f.heap.size,0,none⟩)] 99)=w4 at *;have P:=(Kp.refl _ w4).bS I (λb A=>.inl A);have B:(Value.slice v L x).ownBlock≠some p:=λe=>by
   have:=d.l.hp.ap (.law 2) (.law 0) p (by show S.sv.ownBlock=some p;rw[l.out];exact e) (by show some S.wb=some p;rw[j.out]);injection this with this
   omega
  have E:=(z.any.trans P).az g B;obtain⟨k9,w0⟩:=ae E;clear I G h1 h9;change Hid _ at K N;replace B:=Z B;change Hid _ at J;replace q:=Z q;change Hid _ at E;go_wp2_with fail;go_ret;have kz:Kp (one p) w5 (w5.setCell ⟨p,1,none⟩ (.slice m (L+1) n)):=(Kp.refl _ _).bK _ _;have kF:Kp (λb=>b=p\/(Value.slice v L x).ownBlock=some b) w4 (w5.setCell ⟨p,1,none⟩ (.slice m (L+1) n)):=(P.mono (λb _ h=>.inr h)).bE (.inl U) _ _;have R:=heap_setCell (o:=1) E (.slice m (L+1) n);have F:Mv w4 (.slice v L x) (.slice m (L+1) n):=by rcases J.out with e|e;exact .inl e;exact .inr ⟨_,e,by rw[N.out];exact VP _⟩
  have w2:=z.size;have k0:(Value.slice m (L+1) n).ownBlock≠some p:=λe=>B (F.old e Y)
  have T:=kz.own q (λb A e=>k0 (by rw[A,show b=p from e]));rw[j.out]at kF R T;rw[<-l.out]at kF F;have W:=s.trans z;have w3:w.heap.size<=y:=cj D.out;have k2:∀i b,b=y\/b=f.heap.size->(S.J i).az≠some b:=λi b A=>d.l.hp.new Y i
  have k3:=(d.kp (X':=λb=>b=y\/b=f.heap.size) W (λb A=>.inr Y)).adj (v':=.slice m (L+1) n) kF R (by rw[<-hL.out];exact T) F (by rw[<-hL.out];exact k8) (z.az h3 id) K Y k2 ⟨cj d.le,cj d.le⟩;rw[j.out];refine⟨Vc,_,k3,(W.any).trans (kF.mono (λb _ A=>?_)),U,⟨Vc,Vc,Vc⟩,trivial⟩;rcases A with rfl |A
  .exact d.up (.law 0) _ U
  .exact d.up (.law 2) _ A
 .go_wp2_with fail;go_ret;exact d.Ir s trivial
def gD{w:Yw}{S:gI}(h:gB t w no S)(d a b c:Int)(n:(d=2\/d=3\/d=5)/\S.eZ.length=0\/d=5/\0<S.eZ.length/\S.iG.length=0\/(d=6\/d=7\/d=8)/\S.ed.length=0\/(d=9\/d=10)/\S.iG.length=0\/d<1\/10<d)(f:Option Addr)(o p:Nat)(q:Option Addr)(r s:Nat):
  Yy prog 42 #[aj S.wb,BI d a b c (Q f o p) (Q q r s)] w (eR t w S λ_=>True):=by
 obtain⟨u,v,g⟩:=aA (h.l.l4 (i:=.law 1) U);obtain⟨x,y,j⟩:=aA (h.l.l4 (i:=.law 2) U);obtain⟨z,A,k⟩:=aA (h.l.l4 (i:=.law 3) U);have e:=h.l.az;unfold hJ at e;rw[g,j,k]at e;obtain⟨C,l⟩:=bL S.wb;rw[<-l]at e⊢;have m:Kp no w (w.alloc (Yl #[V O d,V O a,V O b,V O c,Q f o p,Q q r s] 93)):=oO;obtain⟨B,-⟩:=ae (m.az e id);clear e l g j k;change Hid _ at h m;generalize S.eZ.length=D at *;generalize S.iG.length=E at *;generalize S.ed.length=F at *;rcases n with⟨rfl |rfl |rfl,rfl⟩|⟨rfl,G,rfl⟩|⟨rfl |rfl |rfl,rfl⟩|⟨rfl |rfl,rfl⟩|n
 all_goals
  try have b:(d==1)=Yj/\(d==2)=Yj/\(d==3)=Yj/\(d==4)=Yj/\(d==5)=Yj/\(d==6)=Yj/\(d==7)=Yj/\(d==8)=Yj/\(d==9)=Yj/\(d==10)=false:=by simp only[Vt];omega
  go_enter func42,ntmps42;go_wp2_with fail;go_ret;exact h.Ir m trivial
def IC:∃i z,Tryz.prog.info? 154=M i/\i.zero=M z/\i.size=2/\i.bytes=16/\z.cells.size=2:=nT Vf
def aaz{x:In}(k:x.ib≠x.xb)(e:x.mv.ownBlock≠M x.ib)(f:x.gv.ownBlock≠M x.ib)(g:x.mv.ownBlock≠M x.xb)(i:x.gv.ownBlock≠M x.xb)(j:∀b,x.mv.ownBlock=M b->x.gv.ownBlock≠M b)(r d b:Nat)(h:(wS x r).az=M b)(a:(wS x d).az=M b):r=d:=by
 have c:∀{b},(wS x 0).az=M b->b=x.ib:=λh=>(Vr h).symm
 have e1:∀{b},(wS x 1).az=M b->b=x.xb:=λh=>(Vr h).symm
 match r,d,h,a with
 |0,0,_,_=>rfl
 |0,1,h,a=>grind
 |0,2,h,a=>exact absurd (by rw[<-c h];exact a) e
 |0,3,h,a=>exact absurd (by rw[<-c h];exact a) f
 |1,0,h,a=>grind
 |1,1,_,_=>rfl
 |1,2,h,a=>exact absurd (by rw[<-e1 h];exact a) g
 |1,3,h,a=>exact absurd (by rw[<-e1 h];exact a) i
 |2,0,h,a=>exact absurd (by rw[<-c a];exact h) e
 |2,1,h,a=>exact absurd (by rw[<-e1 a];exact h) g
 |2,2,_,_=>rfl
 |2,3,h,a=>exact absurd a (j b h)
 |3,0,h,a=>exact absurd (by rw[<-c a];exact h) f
 |3,1,h,a=>exact absurd (by rw[<-e1 a];exact h) i
 |3,2,h,a=>exact absurd h (j b a)
 |3,3,_,_=>rfl
 |_+4,_,h,_=>cases h
 |0,_+4,_,a=>cases a
 |1,_+4,_,a=>cases a
 |2,_+4,_,a=>cases a
 |3,_+4,_,a=>cases a
abbrev FO(x:In):Nat->Prop:=λb=> ∃r,(wS x r).az=M b
def gB.adk{w w':World}{S:gI}{x:In}(h:gB a w (FO x) S)(k:Kp (λb=>b=S.wb\/S.iv.ownBlock=some b) w w')
  (f:w'.heap[S.wb]?=some (.cells #[S.mv,S.sv,v,.int .i64 S.n,S.bv,S.vv,S.kv,.bool S.tr] 90))(q:w'.ownsRow 0 154 2 v (S.ed.length+1) ((S.ed.flatMap λs=>[aj s.ib,ptr s.xb])++[aj x.ib,ptr x.xb]))(t:Mv w S.iv v)(J:S.ed.length<4)
  (n:∀r,(wS x r).At w)(K:∀r p b,(wS x r).az=some b->(wS x p).az=some b->r=p)(g:∀i b,FO x b->(S.J i).az≠some b)(u:∀b,FO x b->a<=b)(z:rZ w (RO w (FO x) S.J) S.iG x):
  gB a w' no {S with ed:=S.ed++[x],iv:=v}:=by
 have A:∀b,FO x b->b<w.heap.size:=λb ⟨r,f⟩=>(n r).lt f
 have B:∀r,({S with ed:=S.ed++[x],iv:=v}:gI).J (.ed S.ed.length r)=wS x r:=λr=>by
  grind[gI.J]
 obtain⟨C,c,d,D⟩:=h.l.grow (S':={S with ed:=S.ed++[x],iv:=v}) (o:=3) (λi=> ∃r,i=.ed S.ed.length r) Vb k U U f (by show Wt.row _ _ _ _ _=Wt.row _ _ _ _ _;simp) q t (λi L N P=>by
   cases i with
   |law j=>match j with
    |0=>grind
    |1=>rfl
    |2=>rfl
    |3=>grind
    |4=>rfl
    |5=>rfl
    |6=>rfl
    |_+7=>rfl
   |iQ j r=>rfl
   |ed j r=>
    grind[gI.J]) (λi hi=>Ve) (λi hi=>by
   obtain⟨r,rfl⟩:=hi;rw[B];exact(n r).kp k (λb f e=>by
    rcases e with e|e
    .exact g (.law 0) b ⟨r,f⟩ (by rw[e];rfl)
    .exact g (.law 3) b ⟨r,f⟩ e)) (λi b hi e=>by
   grind) (λi R b hi E e T=>by
   grind) A
 refine⟨⟨C,⟨h.l.rd.tab.on c d,h.l.rd.t2.kp c (λF=>F h.l.rd.r2),d _ h.l.rd.r2,λm G=>(h.l.rd.ms m G).on c d,λs I=>(h.l.rd.ss s I).on c d,λy l=>?_,h.l.rd.b.on c d,h.l.rd.v.on c d,h.l.rd.k.on c d⟩,h.l.m4,h.l.s4,Ve,h.l.n0⟩,λi b e=>?_,by have:=k.size;have:=h.le;omega⟩
 .rcases VS.1 l with l|l
  .exact(h.l.rd.is y l).on c d
  grind[rZ.on]
 .rcases D i b e with⟨j,e⟩|e|e
  .exact h.up j b e
  .exact u b e
  .have :=h.le;omega
def MR{w w4 w5 w6 w7 w9:Yw}{S:gI}(h:gB a w no S){x:St}{y:Md}(hx:S.iG[t]?=M x)(hy:S.eZ[o]?=M y)(hp:MdP y){wb L aM oM cM aN oN cN aaA aaB ib xb:Nat}{j:Option Addr}{E:Option Addr}{gv:Yx}(F:wb=S.wb)(G:S.mv= Q (M ⟨aN,oN,H⟩) S.eZ.length cN)(I:S.sv= Q (M ⟨aM,oM,H⟩) S.iG.length cM)(J:S.iv= Q j L aaA)(hL:L=S.ed.length)(h4:L<4)
  (k:Kp no w w4)(l:Kp no w4 w5)(g:Kp no w5 w6)(d:Kp no w6 w7)(f:eX w5 (RO w4 no S.J) ib x.tb y.x v u y.f (List.replicate (y.f.bI*64) 0) (y.f.globals.map λ(n:Nat)=>((n:Nat):Int)))(K:∀b,v.ownBlock=M b->w4.heap.size<=b/\b<w5.heap.size)(N:∀b,u.ownBlock=M b->w4.heap.size<=b/\b<w5.heap.size)(h1:w4.heap.size<=ib)(h2:w5.heap.size<=xb)
  (P:w6.heap[xb]?=M (Yl #[ptr y.y,ptr x.sb,z,gv] 196))(m:w6.ownsRow w5.heap.size 5 1 z (y.f.bI*64) (aP (List.replicate (y.f.bI*64) 0)))(p:w6.ownsRow w5.heap.size 38 1 gv y.f.globals.length (ay (y.f.globals.map λ(n:Nat)=>((n:Nat):Int))))(n1:z.ownBlock≠M xb)(n2:gv.ownBlock≠M xb)(n3:∀b,z.ownBlock=M b->gv.ownBlock≠M b)
  (R:Kp (λb=>b=wb\/(Value.slice j L aaA).ownBlock=M b) w7 w9)(q:w9.heap[wb]?=M (Yl #[Q (M ⟨aN,oN,H⟩) S.eZ.length cN,Q (M ⟨aM,oM,H⟩) S.iG.length cM,Q E (L+1) aaB,V O S.n,S.bv,S.vv,S.kv,Yt S.tr] 90))(T:w9.ownsRow 0 154 2 (Q E (L+1) aaB) (L+1) ((S.ed.flatMap λs=>[aj s.ib,ptr s.xb])++[aj ib,aj xb]))(A:Mv w7 (Q j L aaA) (Q E (L+1) aaB)):
  eR a w S (λ_=>True) (Yq (Yt Yk)) w9:=by
 subst F;rw[<-J]at R A;rw[<-G,<-I]at q;rw[hL]at T h4;have s:=aK m;have B:=aK p;have h3:=au f.az;have h5:=k.size;have h6:=l.size;have h8:=h.le;have C:=((k.trans l).trans g).trans d;let W:In:=⟨ib,xb,y,t,x.tb,x.sb,v,u,z,gv,List.replicate (y.f.bI*64) 0,y.f.globals.map λ(n:Nat)=>(n:Int)⟩;have h9:∀b,FO W b->w4.heap.size<=b:=λb ⟨r,c⟩=>by
  match r,c with
  |0,c=>have:ib=b:=Vr c;omega
  |1,c=>have:xb=b:=Vr c;omega
  |2,c=>have:=s b c;omega
  |3,c=>have:=B b c;omega
  |_+4,c=>cases c
 have X:∀b,FO W b->b<w5.heap.size->b=ib:=λb ⟨r,c⟩ e=>by
  match r,c with
  |0,c=>exact(Vr c).symm
  |1,c=>have:xb=b:=Vr c;omega
  |2,c=>have:=s b c;omega
  |3,c=>have:=B b c;omega
  |_+4,c=>cases c
 have h7:=h.kp (X':=FO W) C (λb c=> Yp Ve);have D:∀b,w4.heap.size<=b/\b<w5.heap.size->b≠ib->RO w7 _ S.J b:=λb c e=>⟨rq g.size d.size,λhX=>e (X b hX c.2),λi=>h.l.hp.new Y i⟩
 have h0:=h7.adk R q Ve A h4 (λr=>?_) (aaz (show ib≠xb by omega) (show z.ownBlock≠M ib from λe=>Ve) (show gv.ownBlock≠M ib from λe=>Ve) n1 n2 n3) (λi b c=>h.l.hp.new Ve i) (λb c=>Ve) ⟨h7.l.rd.ms y (Vw hy),f.tU.kp (g.trans d) bW,λb c=>D b (K b c) (f.mvI b c).1,f.JC.kp (g.trans d) bW,λb c=>D b (N b c) (f.gvI b c).1,hp.st,⟨x,hx,U,U⟩⟩
 .refine⟨U,_,h0,C.any.trans (R.mono (λb _ c=>?_)),U,⟨VI _ _,VI _ _,VI _ _⟩,trivial⟩;rcases c with rfl |c
  .exact h.up (.law 0) _ U
  .exact h.up (.law 3) _ c
 .match r with
  |0=>exact(g.trans d).az f.az id
  |1=>exact d.az P id
  |2=>
   show w7.ownsRow 0 _ 1 z (List.replicate _ _).length _
   rw[V0];exact jw (d.own m bW) (VB _)
  |3=>
   show w7.ownsRow 0 _ 1 gv (y.f.globals.map λ(n:Nat)=>(n:Int)).length _
   rw[VH];exact jw (d.own p bW) (VB _)
  |_+4=>trivial
def ID{w:World}{S:gI}(h:gB t w no S)(e4:0<S.eZ.length)(e5:0<S.iG.length)(a b c:Int)(e6: -9223372036854775808<=b)(e7:b<=9223372036854775807)(e8: -9223372036854775808<=a)(e9:a<=9223372036854775807)(A:Option Addr)(ns cs:Nat)(al:Option Addr)(nl cl:Nat):
  Calls prog 42 #[aj S.wb,BI 5 a b c (.slice A ns cs) (.slice al nl cl)] w (eR t w S λ_=>True):=by
 have H0:S.eZ.length<=4:=h.l.m4;have H1:S.iG.length<=4:=h.l.s4;have s0:S.ed.length<=4:=h.l.i4;obtain⟨k,hk,k0⟩:=jz e8 e9 e5 Y;obtain⟨x,hx⟩:∃x,S.iG[k]?=some x:=⟨_,Vj hk⟩;obtain⟨aM,oM,cM,hv,c0,c1⟩:=h.TT hx;obtain⟨z,s1,T⟩:=jz e6 e7 e4 Y;obtain⟨y,hy⟩:∃y,S.eZ[z]?=some y:=⟨_,Vj s1⟩;obtain⟨aN,oN,cN,X,d0,d1⟩:=h.aaw hy;obtain⟨g,j,f⟩:=aA (h.l.l4 (i:=.law 3) U);obtain⟨L,hL⟩:=bL S.ed.length;rw[<-hL]at f s0;have B:=h.l.az;unfold hJ at B;rw[hv,X,f]at B;have d:=Z h;have HP:=Z k0;have HB:=Z B;have s2:=au h.l.az;obtain⟨l,C⟩:=bL S.wb;rw[<-C]at s2 HB⊢;clear h k0 B;change Hid _ at T hx hy hL f hv X C;go_enter func42,ntmps42;have D:Kp no w (w.alloc (.cells #[.int .i64 5,.int .i64 a,.int .i64 b,.int .i64 c,.slice A ns cs,.slice al nl cl] 93)):=oO;have h0:=ai w (.cells #[.int .i64 5,.int .i64 a,.int .i64 b,.int .i64 c,.slice A ns cs,.slice al nl cl] 93);obtain⟨s3,-⟩:=ae (D.az HB id);go_wp2_with fail;generalize w.alloc _=wq at *;obtain⟨Sx,h1⟩:=bL (λe=>(∀q,e.cell? ⟨l,q,none⟩=#[.slice (some ⟨aN,oN,none⟩) S.eZ.length cN,.slice (some ⟨aM,oM,none⟩) S.iG.length cM,.slice g L j,.int .i64 S.n,S.bv,S.vv,S.kv,.bool S.tr][q]?)/\(∀q,e.cell? ⟨w.heap.size,q,none⟩=#[.int .i64 5,.int .i64 a,.int .i64 b,.int .i64 c,.slice A ns cs,.slice al nl cl][q]?)/\e.cell? ⟨aM,oM+k*2,none⟩=some (aj x.tb)/\e.cell? ⟨aM,oM+k*2+1,none⟩=some (ptr x.sb)/\e.cell? ⟨aN,oN+z*2,none⟩=some (aj y.x)/\e.cell? ⟨aN,oN+z*2+1,none⟩=some (ptr y.y):World->Prop);have k1:∀W,Kp no wq W->Sx W:=λW z=>by
  rw[h1];exact⟨(ae ((D.trans z).az HB id)).1,(ae (z.az h0 id)).1,(D.trans z).aY c0,(D.trans z).aY c1,(D.trans z).aY d0,(D.trans z).aY d1⟩
 have BQ:=Z k1;have MO:=Z h1;have H2:=au h0;clear k1 h1 h0 s3 c0 c1 d0 d1;change Hid _ at D;go_cut [7] (λp e=>p=.pointer (some ⟨wq.heap.size,0,none⟩)/\e.heap[wq.heap.size]?=some (.cells #[aj x.tb,ptr x.sb] 99)/\Kp no wq e);case first =>exact pk
 case rest=>
  rename World=>w3
  obtain⟨rfl,k2,e1⟩:=hcut;have m:=Z k2;have K3:=Z e1;have k3:=BQ w3 e1;rw[MO.out]at k3;have k4:=Z (λW (n:Kp no w3 W)=>BQ W (K3.trans n));clear BQ HP;have BQ:=k4;have HP:=T;have H3:=e1.size;obtain⟨sB,k6⟩:=bL wq.heap.size;rw[<-k6]at m⊢;have H4:=au m;obtain⟨s4,-⟩:=ae m;clear k4 T k2 e1 k3 s4;change Hid _ at k6;go_wp2_with fail;go_cut [8] (λp e=>p=.pointer (some ⟨w3.heap.size,0,none⟩)/\e.heap[w3.heap.size]?=some (.cells #[aj y.x,ptr y.y] 144)/\Kp no w3 e);case first =>
   as_aux_lemma =>
    obtain⟨wq,e⟩:=bL w3;subst e;exact pk
  case rest=>
   rename World=>w4
   obtain⟨rfl,n,s5⟩:=hcut;have p:=(D.trans K3).trans s5;have E:=s5.az m id;obtain⟨mB,k7⟩:=bL w3.heap.size;rw[<-k7]at n⊢;obtain⟨W,-⟩:=ae E;obtain⟨h2,-⟩:=ae n;have k8:=d.kp (X':=no) p (λ_ h=>h.elim);have R:=k8.l.rd.ms y (Vw hy);have sI:∀r,S.J (.iQ k r)=Dj x r:=λr=>by simp only[gI.J,hx.out]
   have k9:x.tb<w4.heap.size:=(k8.l.hp.dY (.iQ k 0)).lt (by rw[sI];rfl);have F:=Qm R.x k9 (λb hb=>⟨hb.1,λe=>hb.2.2 (.iQ k 0) (by rw[sI,e];rfl)⟩) (cj R.p.pg) (cj R.p.gn);have H5:=p.size;clear s5 sI k9 k8 BQ MO m K3 D HP;change Hid _ at E n p R;replace F:=Z F;change Hid _ at k7;go_wp2_with fail;refine F.mono ?_;rintro r K4⟨⟨ib,pm,pg,rfl,s6,h3,w0,w1⟩,k5⟩;have G:=p.trans k5;have w2:=G.az HB id;obtain⟨s7,-⟩:=ae w2;have H6:=au h3.az;have s8:=Z (k5.az E id);have s9:=Z (k5.az n id);have H7:=k5.size;clear W h2 w2 F E n;change Hid _ at h3 w0 w1 k5 G;by_cases k8:L<4
   .obtain⟨W,-⟩:=ae s8;obtain⟨h2,-⟩:=ae s9;go_wp2_with fail;have hG:=(R.g.on (k5.any) (λ_ h=>h));refine(Dl hG R.p.pg R.p.gn).mono ?_;rintro r w6⟨⟨xb,mv,gv,rfl,x0,h4,h5,h6,n1,n2,n3⟩,e2⟩;have h7:=G.trans e2;have s:=h7.az HB id;obtain⟨h8,-⟩:=ae s;have x1:∀o q,(w6.alloc o).cell? ⟨l,q,none⟩=#[.slice _ S.eZ.length cN,.slice _ S.iG.length cM,.slice g L j,.int .i64 S.n,S.bv,S.vv,S.kv,.bool S.tr][q]? :=λo q=>(ae (ah s)).1 q
    have H8:=au h4;have HN:=Z (And.intro n1 (And.intro n2 n3));have H9:=e2.size;have I:=(d.kp (X':=no) h7 (λ_ h=>h.elim)).l.l4 (i:=.law 3) U;rw[f.out,<-hL.out]at I;obtain⟨j1,z1,x2,x3,x4,x5,x6⟩:=IC;clear n1 n2 n3 W h2 s7 hG h8;replace I:=Z I;change Hid _ at e2 h7 s;replace h6:=Z h6;replace h5:=Z h5;change Hid _ at h4;have h8:=(ae s).1;go_wp2_with(at_builtin;refine bj _ U _ _ 83 U 0 154 j1 z1 2 16 underlying83 x2 x3 x4 x5 x6 Vb _ _ _ U (I.alloc _) _ 1 [aj ib,aj xb] U (JP Vc) ?m2 ?m3 ?m4 (VB _) ?_);case m2=>intro u hu;simp at hu;rcases hu with rfl |rfl <;>rfl
    case m3=>unfold maxLen;omega
    case m4=>omega
    intro v8 w8 J w5 w7;obtain⟨q,v,rfl⟩:=aA J;have K:Kp no w6 (w6.alloc (.cells #[aj ib,aj xb] 154)):=oO;have w9:(w6.alloc (.cells #[aj ib,aj xb] 154)).heap.size=w6.heap.size+1:=Vc
    generalize w6.alloc _=e3 at *;have N:Kp _ e3 w8:=(Kp.refl _ e3).bS w5 (λb hb=>.inl hb);have P:(Value.slice g L j).ownBlock≠some l:=λe=>by
     have:=d.l.hp.ap (.law 3) (.law 0) l (by show S.iv.ownBlock=some l;rw[f.out];exact e) (by show some S.wb=some l;rw[C.out]);injection this with this
     omega
    have h9:=(K.any.trans N).az s P;obtain⟨K0,K1⟩:=ae h9;clear w5 h8 x1;change Hid _ at w9;replace P:=Z P;change Hid _ at w7;replace N:=Z N;change Hid _ at K;replace J:=Z J;change Hid _ at h9;go_wp2_with fail;go_ret;have kz:Kp _ w8 (w8.setCell ⟨l,2,none⟩ (.slice q (L+1) v)):=(Kp.refl _ _).bK _ _;have kF:Kp (λb=>b=l\/(Value.slice g L j).ownBlock=some b) e3 (w8.setCell ⟨l,2,none⟩ (.slice q (L+1) v)):=(N.mono (λb _ h=>.inr h)).bE (.inl U) _ _;have x7:=heap_setCell (o:=2) h9 (.slice q (L+1) v);have K2:=K.size;have e0:Mv e3 (.slice g L j) (.slice q (L+1) v):=by rcases w7.out with e|e;exact .inl e;exact .inr ⟨_,e,cj w9.out⟩
    have x8:(Value.slice q (L+1) v).ownBlock≠some l:=λe=>P (e0.old e Y)
    have x9:=kz.own J (λb hb e=>x8 (by rw[hb,show b=l from e]));generalize w8.setCell _ _=K5 at *;exact MR d hx hy R.p C X hv f hL k8 p k5 e2 K h3 w0 w1 s6 x0 h4 h5 h6 HN.1 HN.2.1 HN.2.2 kF x7 x9 e0
   .go_wp2_with fail;go_ret;exact d.Ir G trivial
end
section
open Go.RowKit Go.Maps
open Rf (ptr bh)
def MS{a:Int}(h:(Lit.int O a).wf=Yk): -9223372036854775808<=a/\a<=9223372036854775807:=by
 exact BK
def fk.range{w:Yw}{m:List (Int×Int)}(h:fk w i m){x:Int}(c:(look m x).isSome=Yk): -9223372036854775808<=x/\x<=9223372036854775807:=by
 obtain⟨D,n,a,-,d⟩:=h;obtain⟨j,e,b⟩:=a.keysOf;rw[<-(d.2 x).1,e,Maps.has_eq,XE]at c;obtain⟨p,f,h⟩:=c;obtain⟨v,g⟩:=b p f;obtain⟨y,-,k,l⟩:=Maps.keyOf_i64 underlying2 g;simp_all[Lit.sameKey,MS]
def zu.range{w:Yw}{s:St}(h:zu w R s)(a:y∈s.st.map (·.1)): -9223372036854775808<=y/\y<=9223372036854775807:=by
 rw[<-yJ h.eq.PU,h.eq.get]at a;rcases h.map with⟨-,e⟩|⟨b,-,c⟩
 .grind[look]
 .exact c.range a
structure rm(w:Yw)(a b:Int)(sv lv:Yx)(data:List UInt8)(args:List Int):Prop where
 s:Rf.eJ w sv data
 sl:∀q,Rf.B7 sv data=M q->q<w.heap.size
 d:data.length<=2000000
 l:jU w lv args
 ll:∀q,Ic lv args=M q->q<w.heap.size
 r:∀v∈args,0<=v/\v<18446744073709551616
 n:args.length<=2000000
 a1: -9223372036854775808<=a
 a2:a<=9223372036854775807
 b1: -9223372036854775808<=b
 b2:b<=9223372036854775807
theorem rm.kp{w w':Yw}{b:Int}(h:rm w y b v u D I)(k:Kp no w w'):rm w' y b v u D I:=
 ⟨h.s.kp k bW,λq a=>rq (h.sl q a) k.size,h.d,h.l.kp k bW,λq a=>rq (h.ll q a) k.size,h.r,h.n,h.a1,h.a2,h.b1,h.b2⟩
def yes:gI->Prop:=λ_=>True
def FP{w:Yw}{S:gI}(h:gB i w no S)(a:Int){b:Int}(c:Int)(o:rm w y b v u D I)(f:∀q,Ic u I=M q->RO w no S.J q)(d:S.nb<=100000000)(g:S.nv<=100000000)(j:S.nk<=100000000):
  Yy prog 42 #[aj S.wb,BI a y b c v u] w (eR i w S yes):=by
 have go:∀{P:gI->Prop} {I:Array Yx},Yy prog 42 I w (eR i w S P)->Yy prog 42 I w (eR i w S yes):=λh=>h.mono λ_ _ h=>h.weak λ_ _=>trivial
 obtain⟨m,n,rfl,-⟩:=o.l.aJ;by_cases k:a=1
 .subst k;exact go (BU h o.s o.sl o.d y b c _ _ _)
 obtain⟨l,p,rfl,-⟩:=o.s.aJ;by_cases q:a<1\/10<a
 .exact go (gD h a y b c Y _ _ _ _ _ _)
 rcases(show a=2\/a=3\/a=4\/a=5\/a=6\/a=7\/a=8\/a=9\/a=10 by omega)with rfl |rfl |rfl |rfl |rfl |rfl |rfl |rfl |rfl
 .rcases VM S.eZ.length with e|e
  .exact go (gD h _ y b c Y _ _ _ _ _ _)
  grind[Iz,rm.a1,rm.a2]
 .rcases VM S.eZ.length with e|e
  .exact go (gD h _ y b c Y _ _ _ _ _ _)
  .exact go (MP h e d y b c o.a1 o.a2 _ _ _ _ _ _)
 .exact go (IB h y b c _ _ _ _ _ _)
 .rcases VM S.eZ.length with e|e
  .exact go (gD h _ y b c Y _ _ _ _ _ _)
  .rcases VM S.iG.length with e2|e2
   .exact go (gD h _ y b c Y _ _ _ _ _ _)
   .exact go (ID h e e2 y b c o.b1 o.b2 o.a1 o.a2 _ _ _ _ _ _)
 .rcases VM S.ed.length with e|e
  .exact go (gD h _ y b c Y _ _ _ _ _ _)
  .exact go (IA h e y b c o.a1 o.a2 _ _ _ o.l f o.r o.n)
 .rcases VM S.ed.length with e|e
  .exact go (gD h _ y b c Y _ _ _ _ _ _)
  .exact go (lF h Y y b c _ _ _ _ _ _ λW h=>FK h e d y b c o.a1 o.a2 _ _ _ _ _ _)
 .rcases VM S.ed.length with e|e
  .exact go (gD h _ y b c Y _ _ _ _ _ _)
  .exact go (lF h Y y b c _ _ _ _ _ _ λW h=>BS h e g y b c o.a1 o.a2 _ _ _ _ _ _)
 .rcases VM S.iG.length with e|e
  .exact go (gD h _ y b c Y _ _ _ _ _ _)
  .exact go (lF h Y y b c _ _ _ _ _ _ λW h=>BT h e j y b c o.a1 o.a2 _ _ _ _ _ _)
 .rcases VM S.iG.length with e|e
  .exact go (gD h _ y b c Y _ _ _ _ _ _)
  grind[FL,rm.b1,rm.b2,rm.a1,rm.a2]
end
section
open Go.RowKit
open Rf (ptr bh)
def xq(w:Yw)(v:Yx)(n:Nat):Prop:= ∃cells,aw w v 6 n cells/\ ∀k,k<n-> ∃(kd a b c:Int) (sv lv:Yx) (data:List UInt8) (args:List Int),
 cells[k*6]?=M (V O kd)/\cells[k*6+1]?=M (V O a)/\cells[k*6+2]?=M (V O b)/\cells[k*6+3]?=M (V O c)/\cells[k*6+4]?=M sv/\cells[k*6+5]?=M lv/\rm w a b sv lv data args
structure LI(w:Yw)(wb c:Nat)(wr:Yw)(S:gI):Prop where
 l:gB w.heap.size wr no S
 wb:S.wb=wb
 nb:S.nb<=2*c
 nv:S.nv<=c
 nk:S.nk<=c
 k:Kp no w wr
section
variable{w w1 w2:World}{wb c:Nat}{S:gI}{P:gI->Prop}{r:Ending}
theorem Kp.low(k:Kp (hi w.heap.size) w1 w2)(a:Kp no w w1):Kp no w w2:=a.comp k bW (λb d h=>by grind[hi])
theorem LI.step(h:LI w wb c w1 S)(p:eR w.heap.size w1 S P r w2):r= Yq (Yt Yk)/\ ∃a,LI w wb (c+1) w2 a/\P a:=by
 obtain⟨b,a,d,e,f,⟨i,j,k⟩,g⟩:=p;have:=h.nb;have:=h.nv;have:=h.nk;exact⟨b,a,⟨d,f.trans h.wb,Y,Y,Y,e.low h.k⟩,g⟩
theorem LI.kp(h:LI w wb c w1 S)(k:Kp no w1 w2):LI w wb c w2 S:=⟨h.l.kp k (λ_ h=>h.elim),h.wb,h.nb,h.nv,h.nk,h.k.trans k⟩
def LI.call(h:LI w wb c w1 S)(g:c<=40000000)(a:Int){b:Int}(d:Int)(o:rm w1 y b v u D I)(e:∀q,Ic u I=M q->RO w1 no S.J q):
  df 42 #[aj wb,BI a y b d v u] w1 (Yt Yk) λw2=> ∃f,LI w wb (c+1) w2 f:=by
 have:=h.nb;have:=h.nv;have:=h.nk;rw[<-h.wb];refine(FP h.l a d o e Y Y Y).mono ?_;grind[step,wb]
theorem LI.old(h:LI w wb c w1 S)(b:a<w.heap.size):RO w1 no S.J a:=⟨cj h.k.size,λh=>h,λi e=>cj (h.l.up i a e)⟩
def LI.cells(h:LI w wb c w1 S):∃a c1 b c2 a3 c3,w1.heap[wb]?=M (Yl #[Q a S.eZ.length c1,Q b S.iG.length c2,Q a3 S.ed.length c3,V O S.n,S.bv,S.vv,S.kv,Yt S.tr] 90):=by
 obtain⟨a,c1,e1⟩:=aA (h.l.l.l4 (i:=.law 1) U);obtain⟨b,c2,e2⟩:=aA (h.l.l.l4 (i:=.law 2) U);obtain⟨a3,c3,e3⟩:=aA (h.l.l.l4 (i:=.law 3) U);have:=h.l.l.az;unfold hJ at this;grind[wb]
def LI.looks(h:LI w wb c w1 S)(a:c<=40000000):df 44 #[Yv (M ⟨wb,3,H⟩)] w1 (Yt Yk) λw2=>LI w wb c w2 S:=by
 have:=h.nb;have:=h.nv;have:=h.nk;rw[<-h.wb];refine(h.l.l.looks Y Y Y).mono ?_;grind[wb,kp]
def rm.none(w:Yw){b:Int}(d: -9223372036854775808<=y)(e:y<=9223372036854775807)(f: -9223372036854775808<=b)(g:b<=9223372036854775807):rm w y b (Q H 0 0) (Q H 0 0) [] []:=
 ⟨.of (aq.nil w),(λq a=>by cases a),Vc,Yo ⟨U,U⟩,(λq a=>by cases a),(λv h=>by cases h),Vc,d,e,f,g⟩
def LI.store(h:LI w wb c w1 S){x:St}(n:S.iG[a]?=M x):∃d f j b g k c1 a3 c3,w1.heap[wb]?=M (Yl #[Q k S.eZ.length c1,Q (M ⟨d,f,H⟩) S.iG.length j,Q a3 S.ed.length c3,V O S.n,S.bv,S.vv,S.kv,Yt S.tr] 90)/\w1.cell? ⟨d,f+a*2+1,H⟩=M (ptr x.sb)/\w1.heap[x.sb]?=M (Yl #[Q b x.st.length g,x.vv] 96)/\aw w1 (Q b x.st.length g) 1 x.st.length (aQ (x.st.map (·.1)))/\x.st.length<=8/\ ∀y∈x.st.map (·.1),-9223372036854775808<=y/\y<=9223372036854775807:=by
 obtain⟨d,f,j,s,-,t⟩:=h.l.TT n;have o:∀r,S.J (.iQ a r)=Dj x r:=λr=>by grind[gI.J]
 have p:w1.heap[x.sb]?=M (Yl #[x.kv,x.vv] 96):=by have:=h.l.l.hp.dY (.iQ a 1);rw[o]at this;exact this
 have l:w1.ownsRow 0 2 1 x.kv x.st.length (aQ (x.st.map (·.1))):=by have:=h.l.l.hp.dY (.iQ a 2);rw[o]at this;exact this
 obtain⟨b,g,e⟩:=aA l;rw[e]at p l;have q:=h.l.l.rd.ss x (Vw n);obtain⟨k,c1,e1⟩:=aA (h.l.l.l4 (i:=.law 1) U);obtain⟨a3,c3,e3⟩:=aA (h.l.l.l4 (i:=.law 3) U);have m:=h.l.l.az;unfold hJ at m;rw[e1,s,e3,h.wb]at m;exact⟨d,f,j,b,g,k,c1,a3,c3,m,t,p,aw.own l,q.few,λy u=>q.range u⟩
theorem LI.le(h:LI w wb c w1 S)(a:c<=i):LI w wb i w1 S:=⟨h.l,h.wb,cj h.nb,cj h.nv,cj h.nk,h.k⟩
def Sm(T:List St)(n:Nat)(S:gI):Prop:=S.iG=T/\S.ed.length=n
def zx.sm{T:List St}{a:gI}(h:zx S a)(b:Sm T i S):Sm T i a:=⟨h.2.1.trans b.1,by rw[h.2.2];exact b.2⟩
def LM(w:Yw)(wb c:Nat)(T:List St)(n:Nat)(r:Ending)(w2:Yw):Prop:=r= Yq (Yt Yk)/\ ∃S',LI w wb c w2 S'/\Sm T n S'
section
variable{T:List St}{n q:Nat}(h:LI w wb c w1 S)(hc:c<=40000000)(hs:Sm T n S)
include h hc hs
def vG{P:Prop}(h:P:=by
 rw[h.wb]at p;refine p.mono ?_;rintro r w2 p;obtain⟨a,b,d,e⟩:=h.step p;exact⟨a,b,d,e.sm hs⟩):P:=h
theorem LI.mem(a:q<n):Yy prog 42 #[aj wb,BI 7 q 0 0 (Q H 0 0) (Q H 0 0)] w1 (LM w wb (c+1) T n):=by
 have:=h.nb;have:=h.l.l.i4;have:=hs.2;have p:=lF h.l (kd:=7) Y q 0 0 H 0 0 H 0 0 λW h=>FK h Y Y q 0 0 Y Y H 0 0 H 0 0
 exact vG
theorem LI.adm(a:q<n):Yy prog 42 #[aj wb,BI 8 q 0 0 (Q H 0 0) (Q H 0 0)] w1 (LM w wb (c+1) T n):=by
 have:=h.nv;have:=h.l.l.i4;have:=hs.2;have p:=lF h.l (kd:=8) Y q 0 0 H 0 0 H 0 0 λW h=>BS h Y Y q 0 0 Y Y H 0 0 H 0 0
 exact vG
theorem LI.bG(a:q<T.length):Yy prog 42 #[aj wb,BI 9 q 0 0 (Q H 0 0) (Q H 0 0)] w1 (LM w wb (c+1) T n):=by
 have:=h.nk;have b:=h.l.l.s4;have e:=hs.1;have p:=lF h.l (kd:=9) (Yp ⟨U,by rw[e];omega⟩) q 0 0 H 0 0 H 0 0 λW h=>BT h (by rw[e];omega) Y q 0 0 Y Ve H 0 0 H 0 0
 exact vG
theorem LI.get(f:q<T.length)(a: -9223372036854775808<=y)(b:y<=9223372036854775807):Yy prog 42 #[aj wb,BI 10 q y 0 (Q H 0 0) (Q H 0 0)] w1 (LM w wb (c+1) T n):=by
 have g:=h.l.l.s4;have e:=hs.1;have:=hc;have p:=FL h.l (by rw[e];omega) q y 0 a b Y Ve H 0 0 H 0 0;rw[h.wb]at p;refine p.mono ?_;rintro r w2 p;obtain⟨a,i,b,d⟩:=h.step p;subst d;exact⟨a,_,b,hs⟩
end
end
def aaC(wb:Nat):gI:=⟨wb,[],[],[],0,Yj,Q H 0 0,Q H 0 0,Q H 0 0,Q H 0 0,Q H 0 0,Q H 0 0,0,0,0,[],[],[]⟩
theorem LI.new{w w1:Yw}(l:a=w.heap.size)(k:Kp no w w1)(d:w1.heap[a]?=M (Yl #[Q H 0 0,Q H 0 0,Q H 0 0,V O 0,Q H 0 0,Q H 0 0,Q H 0 0,Yt Yj] 90))(m:rY w)(f:nz w):LI w a 0 w1 (aaC a):=by
 have g:∀i b,((aaC a).J i).az=M b->i=.law 0/\b=a:=λi b e=>by
  cases i with
  |law j=>match j,e with
   |0,e=>exact⟨U,(Vr e).symm⟩
   |1,e=>cases e
   |2,e=>cases e
   |3,e=>cases e
   |4,e=>cases e
   |5,e=>cases e
   |6,e=>cases e
   |_+7,e=>cases e
  |iQ j r=>cases e
  |ed j r=>cases e
 have p:=au d;have c:∀b,b<w.heap.size->RO w1 no (aaC a).J b:=λb d=>⟨Y,λh=>h,λi e=>Ve⟩
 refine⟨⟨⟨⟨λi=>?_,λi j b n o=>(g i b n).1.trans (g j b o).1.symm⟩,⟨eN.on (ro:=λb=>b<w.heap.size) k.any c m,f.kp k id,c 2 f.lt,(λ_ h=>by cases h),(λ_ h=>by cases h),(λ_ h=>by cases h),(λ_ h=>absurd h (Wo _)),(λ_ h=>absurd h (Wo _)),(λ_ h=>absurd h (Wo _))⟩,VB _,VB _,VB _,⟨show(-9223372036854775808:Int)<=0 by decide,show(0:Int)<=9223372036854775807 by decide⟩⟩,(λi b e=>Ve),Y⟩,U,cQ,cQ,cQ,k⟩;cases i with
 |law j=>match j with
  |0=>exact d
  |1=>exact World.ownsRow_nil _ _ _ _
  |2=>exact World.ownsRow_nil _ _ _ _
  |3=>exact World.ownsRow_nil _ _ _ _
  |4=>exact World.ownsRow_nil _ _ _ _
  |5=>exact World.ownsRow_nil _ _ _ _
  |6=>exact World.ownsRow_nil _ _ _ _
  |_+7=>trivial
 |iQ j r=>trivial
 |ed j r=>trivial
end
section
open Go.ChangeShapes Go.WideShapes Go.ChangeAt Go.RowKit Go.Deep
def yL{a:Type}{d:DataW a}{l:List (DataW a)}(h:d∈l):Rows.uptoBulk d<=Rows.uptoBulkAll l:=by
 induction l with
 |nil=>cases h
 |cons x l ih=>
  rw[Rows.uptoBulkAll];grind
theorem QU{a:Type}(d:DataW a):1<=Rows.uptoBulk d:=by
 unfold Rows.uptoBulk;grind
theorem yM{a:Type}(l:List (DataW a)):l.length<=Rows.uptoBulkAll l:=by
 induction l with
 |nil=>simp
 |cons x l ih=>grind[Rows.uptoBulkAll,QU]
def TX:Tryz.prog.cellsOf 93=6:=Vf
def TY:Tryz.prog.cellsOf 25=1:=Vf
def QV:Tryz.prog.cellsOf 38=1:=Vf
def TZ:Tryz.prog.cellsOf 53=1:=Vf
def FR{W:Yw}{r:Reach}{a:Addr}(b:Value.okWide prog W r i 22 (Q (M a) t o)):a.spot=none:=by
 simp only[Value.okWide,underlying22,Cell.okWide,Cell.ok]at b;obtain⟨-,-,-,c,-⟩:=b;exact c
def aaD(h:(Lit.int Ys y).wf=Yk):0<=y/\y<256:=by
 have a:(decide _&&decide _)=true:=h;rw[show IntKind.u8.min=0 from U,show IntKind.u8.max=255 from U]at a;grind
def T1{W:Yw}{a:Addr}(h:W.cell? a=M v):a.block<W.heap.size:=by
 rcases VE a.block W.heap.size with b|b<;>simp_all[World.cell?]
def BX{P:Prop}(h:P:=by
 split at hb
 .cases hb
 .rename_i c;have d:0<len:=by
   grind
  have e:=T1 (hcell 0 Y);have f:a.block=b:=Vr hb;grind[Addr.add_zero']):P:=h
def FT{H:Type}{j:TypeId×Yx->H}{W:Yw}{x:DataW H×List MemPlace}(h:DataW.trod j prog W 0 (λ_=>Yk) Yk i 25 [v]=M x)(g:Rows.uptoBulk x.1<=1048576):
  ∃d:List UInt8,Rf.eJ W v d/\(∀b,Rf.B7 v d=M b->b<W.heap.size)/\d.length<=2000000:=by
 rcases open_ints underlying25 underlying5 Dp h with⟨c,-⟩|⟨a,len,cap,e,c,-,u,w,q,r,hcell,m⟩
 .simp only[Ws,WQ]at c;subst c;exact⟨[],.of (aq.nil W),(λb hb=>by cases hb),Vc⟩
 .simp only[Ws,WQ]at c;subst c;simp only[VK]at q;have d:((e.take len).map λz=>UInt8.ofNat z.toNat).length=len:=Ve
  have s:len<=2000000:=by
   rw[r]at g;simp only[Rows.uptoBulk]at g;have:=yM (lits (H:=H) Ys (e.take len));grind[lits]
  refine⟨(e.take len).map λz=>UInt8.ofNat z.toNat,⟨⟨M a,cap,by rw[d],Y⟩,λf=>?_⟩,λb hb=>?_,Y⟩
  .have t:0<len:=by
    grind
   have f:=hcell 0 Y;obtain⟨y,A,n⟩:=a;rw[Addr.add_zero']at f;obtain rfl :n=none:=BJ f;have:=aq.mk (cap:=cap) (l:=(e.take len).map λz=>UInt8.ofNat z.toNat) Y (λk g=>by
    rw[d]at g;have o:k<e.length:=Y
    have p:=hcell k o;rw[Addr.add_lit]at p;rw[p];have z:=aaD (m (e.getD k 0) Ve);grind[UInt8.toNat_ofNat'])
   grind
  .unfold Rf.B7 at hb;exact BX
def IE{H:Type}{e:TypeId×Yx->H}{W:Yw}{x:DataW H×List MemPlace}(h:DataW.trod e prog W 0 (λ_=>Yk) Yk i 53 [u]=M x)(f:Rows.uptoBulk x.1<=1048576):
  ∃d:List Int,jU W u d/\(∀b,Ic u d=M b->b<W.heap.size)/\(∀v∈d,0<=v/\v<18446744073709551616)/\d.length<=2000000:=by
 rcases open_ints underlying53 underlying38 QV h with⟨c,-⟩|⟨a,len,g,j,c,-,q,r,n,o,hcell,l⟩
 .simp only[Ws,WQ]at c;subst c;exact⟨[],Yo ⟨U,U⟩,(λb hb=>by cases hb),(λv d=>by cases d),Vc⟩
 .simp only[Ws,WQ]at c;subst c;simp only[VK]at n;have m:(j.take len).length=len:=Ve
  have p:len<=2000000:=by
   rw[o]at f;simp only[Rows.uptoBulk]at f;have:=yM (lits (H:=H) Yr (j.take len));grind[lits]
  refine⟨j.take len,Yp ⟨a,g,by rw[m],Y,λk x f=>?_⟩,λb hb=>?_,λv d=>aat (l v (XY d)),Y⟩
  .grind[ay]
  .unfold Ic at hb;exact BX
theorem six{c:Type}{a:List c}(h:a.length=6):∃b c1 c2 c3 c4 c5,a=[b,c1,c2,c3,c4,c5]:=by
 match a,h with
 |[b,c1,c2,c3,c4,c5],_=>simp
def MU{e:Type}{f:TypeId×Value->e}{W:World}{r:Reach}{d:DataW e}{ps:List MemPlace}(X:Value.okWide prog W r t 22 v)
  (h:DataW.Trod f prog W 0 (λ_=>true) true 22 v d ps)(E:Rows.uptoBulk d<=1048576):
  ∃N,xq W v N/\N<=1048576/\ ∀x∈ps,x.block<W.heap.size:=by
 obtain⟨aC,hf⟩:=h;obtain⟨a0,F,G,rfl⟩:=okWide_slice underlying22 X;have I:=DataW.trod_lt aC _ _ _ hf;rcases open_slice underlying22 hf with⟨l,hx⟩|⟨a,o,J,m,n,D,Pl,l,-,hl,hm,h0,hx,h1⟩
 .have l:[Value.slice a0 F G]=[Value.slice none 0 0]:=l;simp only[Ws,WQ]at l;rw[l];exact⟨0,⟨[],aw.nil _ 6,λk h=>absurd h (Wo _)⟩,Y,I⟩
 .have l:[Value.slice a0 F G]=[Value.slice _ o J]:=l;simp only[Ws,WQ]at l;rw[l]at X⊢;have K:=FR X;obtain⟨y,u,k0⟩:=a;simp only at K;subst K;simp only[VK]at h0;have hd:d=.slice _ _:=Vy Prod.fst hx;rw[hd]at E;simp only[Rows.uptoBulk]at E;have h2:o<=1048576:=by
   grind[yM,List.length_map]
  have L:∀i,i<o-> ∃p c1 c2 c3 c4 c5,(∀j,j<6->W.cell? ⟨y,u+i*6+j,none⟩=[p,c1,c2,c3,c4,c5][j]?)/\ ∃(C a b c:Int) (s:List UInt8) (g:List Int),p=.int .i64 C/\c1=.int .i64 a/\c2=.int .i64 b/\c3=.int .i64 c/\rm W a b c4 c5 s g:=by
   intro i hi;obtain⟨k1,h9,k2⟩:=h1 i Y;rw[TX,Addr.add_lit]at h9;obtain⟨-,h3,k3⟩:=World.cells?_some h9;obtain⟨p,c1,c2,c3,c4,c5,rfl⟩:=six h3;obtain⟨xs,q,-,h4,-,h5,g⟩:=DataW.trod_struct underlying93 k2;obtain⟨N,P,R,S,z,A,rfl⟩:=six (show xs.length=6 from h5);have t0:DataW.trod f prog W 0 _ true q 3 (List.take (Tryz.prog.cellsOf 3) (List.drop 0 [p,c1,c2,c3,c4,c5]))=some N:=g 0 _ U;rw[qi]at t0;change DataW.trod f prog W 0 _ true q 3 [p]=some N at t0;have t1:DataW.trod f prog W 0 _ true q 3 (List.take (Tryz.prog.cellsOf 3) (List.drop 1 [p,c1,c2,c3,c4,c5]))=some P:=g 1 _ U;rw[qi]at t1;change DataW.trod f prog W 0 _ true q 3 [c1]=some P at t1;have t2:DataW.trod f prog W 0 _ true q 3 (List.take (Tryz.prog.cellsOf 3) (List.drop 2 [p,c1,c2,c3,c4,c5]))=some R:=g 2 _ U;rw[qi]at t2;change DataW.trod f prog W 0 _ true q 3 [c2]=some R at t2;have t3:DataW.trod f prog W 0 _ true q 3 (List.take (Tryz.prog.cellsOf 3) (List.drop 3 [p,c1,c2,c3,c4,c5]))=some S:=g 3 _ U;rw[qi]at t3;change DataW.trod f prog W 0 _ true q 3 [c3]=some S at t3;have t4:DataW.trod f prog W 0 _ true q 25 (List.take (Tryz.prog.cellsOf 25) (List.drop 4 [p,c1,c2,c3,c4,c5]))=some z:=g 4 _ U;rw[TY]at t4;change DataW.trod f prog W 0 _ true q 25 [c4]=some z at t4;have t5:DataW.trod f prog W 0 _ true q 53 (List.take (Tryz.prog.cellsOf 53) (List.drop 5 [p,c1,c2,c3,c4,c5]))=some A:=g 5 _ U;rw[TZ]at t5;change DataW.trod f prog W 0 _ true q 53 [c5]=some A at t5;obtain⟨C,e0,-,-⟩:=DataW.trod_int underlying3 t0;obtain⟨a,e1,-,w1⟩:=DataW.trod_int underlying3 t1;obtain⟨b,e2,-,w2⟩:=DataW.trod_int underlying3 t2;obtain⟨c,e3,-,-⟩:=DataW.trod_int underlying3 t3;have T:D i=.agg [N.1,P.1,R.1,S.1,z.1,A.1]:=Vy Prod.fst h4;have w:Rows.uptoBulk (D i)<=1048576:=by
    have:=yL (show D i∈(List.range o).map D from Xc.2 ⟨i,List.mem_range.2 hi,U⟩);omega
   have h6:Rows.uptoBulk z.1<=1048576:=by
    rw[T]at w;simp only[Rows.uptoBulk]at w;have:=yL (show z.1∈[N.1,P.1,R.1,S.1,z.1,A.1]by simp);omega
   obtain⟨s,q1,q2,q3⟩:=FT t4 h6;have h7:Rows.uptoBulk A.1<=1048576:=by
    rw[T]at w;simp only[Rows.uptoBulk]at w;have:=yL (show A.1∈[N.1,P.1,R.1,S.1,z.1,A.1]by simp);omega
   obtain⟨B,q4,q5,q6,q7⟩:=IE t5 h7;simp only[Ws,WQ]at e0 e1 e2 e3;have hw:=QL w1;have h8:=QL w2;exact⟨p,c1,c2,c3,c4,c5,λj hj=>by grind[Addr.add_lit],C,a,b,c,s,B,e0,e1,e2,e3,⟨q1,q2,q3,q4,q5,q6,q7,hw.1,Y,h8.1,Y⟩⟩
  have z:∀q,q<o*6-> ∃x,W.cell? ⟨y,u+q,none⟩=some x:=by
   intro q g;obtain⟨p,c1,c2,c3,c4,c5,w,-⟩:=L (q/6) Y;have:=w (q%6) Y;rw[show u+q/6*6+q%6=u+q by omega]at this;grind
  have i:∀q x,W.cell? ⟨y,u+q,none⟩=some x->q<o*6->((List.range (o*6)).map λq=>(W.cell? ⟨y,u+q,none⟩).getD (.int .i64 0))[q]?=some x:=by
   grind
  refine⟨o,⟨(List.range (o*6)).map λq=>(W.cell? ⟨y,u+q,none⟩).getD (.int .i64 0),⟨Vc,.inr ⟨y,u,J,U,hl,λk x E=>?_⟩⟩,λk E=>?_⟩,h2,I⟩
  .grind
  .obtain⟨p,c1,c2,c3,c4,c5,w,C,a,b,c,s,B,rfl,rfl,rfl,rfl,A⟩:=L k E;have g:∀j x,j<6->[Value.int .i64 C,.int .i64 a,.int .i64 b,.int .i64 c,c4,c5][j]?=some x->((List.range _).map λq=>(W.cell? ⟨y,u+q,none⟩).getD _)[k*6+j]?=some x:=λj x hj hx=>i _ _ Ve Y
   exact⟨C,a,b,c,c4,c5,s,B,g 0 _ Y U,g 1 _ Y U,g 2 _ Y U,g 3 _ Y U,g 4 _ Y U,g 5 _ Y U,A⟩
end
section
open Go.RowKit
open Rf (ptr bh)
def BV:List UInt8:=[83,84,75,1,1,2,127,127,1,127,1,0,0,0,7,0,32,0,32,1,106,11]
def TW:(iE BV).toOption.isSome=true:=Vf
def MT:∃f,iE BV= Yn f:=by
 have:=TW;cases h:iE BV with
 |ok f=>simp
 |error e=>rw[h]at this;cases this
def QQ(w:Yw):Yy prog 43 #[] w λr a=>(r= Yq (Q (M ⟨w.heap.size,0,H⟩) 22 22)/\aq a (Q (M ⟨w.heap.size,0,H⟩) 22 22) BV/\w.heap.size<a.heap.size)/\Kp no w a:=by
 go_enter func43,ntmps43;go_wp2;go_ret;refine⟨⟨U,?_,Vc⟩,oO⟩;have b:=ai w (Yl (Rf.cw BV).toArray 5);refine aq.mk Vb (λk a=>?_);have c:=(ae b).1 (0+k);refine Eq.trans c ?_;rw[Vv,Wk,VN,Vj a,Vl,Vj a];rfl
def PlP(w:Yw)(r:Ending)(w':Yw):Prop:=r= Yq (Yt Yk)/\Kp no w w'
def yK(only :Bool){w:Yw}(h:xq w v t)(hN:t<=10000000)(hR:rY w)(hT:nz w):
  Yy prog 15 #[v,V O 10,Yt only] w (PlP w):=by
 obtain⟨k9,g,P⟩:=h;obtain⟨w0,w1,rfl,w2⟩:=g.aJ;replace hT:=Z hT;replace hR:=Z hR;change Hid _ at P;replace g:=Z g;go_enter func15,ntmps15;go_wp2_with fail;have k3:Kp no w (w.alloc (Yl #[Q H 0 0,Q H 0 0,Q H 0 0,V O 0,Q H 0 0,Q H 0 0,Q H 0 0,Yt Yj] 90)):=oO;have z:=ai w (Yl #[Q H 0 0,Q H 0 0,Q H 0 0,V O 0,Q H 0 0,Q H 0 0,Q H 0 0,Yt Yj] 90);generalize w.alloc _=w3 at *;obtain⟨R,A⟩:=bL w.heap.size;rw[<-A]at z⊢;have H1:=Z (LI.new A k3 z hR hT);have w4:=au z;clear k3 z;change Hid _ at A;refine(QQ w3).mono ?_;rintro r e6⟨⟨rfl,B,w5⟩,k4⟩;have H2:=Z (H1.kp k4);clear k4;replace B:=Z B;go_wp2_with fail;obtain⟨f,hf⟩:=MT;have d:=BU H2.l (Rf.eJ.of B) (λb a=>by unfold Rf.B7 at a;rw[Va Vb]at a;have:=ud a;omega) Vb 0 0 0 H 0 0;rw[H2.wb]at d;refine d.mono ?_;rintro r e7 p3;obtain⟨rfl,S3,h7,W⟩:=H2.step p3;have h9:S3.eZ.length=1:=W f hf (by show 0<4;decide);obtain⟨a1,c1,a2,c2,a3,c3,E⟩:=h7.cells;rw[h9]at E;obtain⟨e,-⟩:=ae E;clear p3 W hf E d;change Hid _ at h7;go_wp2_with fail;refine(h7.call Vb 2 0 (.none _ Vb Vb Vb Vb) (λ_ h=>by cases h)).bw ?_;rintro e8⟨S4,h6⟩;have H4:=Z h6;clear h6 e;go_wp2_with fail;refine(H4.call Vb 3 0 (.none _ Vb Vb Vb Vb) (λ_ h=>by cases h)).bw ?_;rintro e9⟨S5,k5⟩;change Hid _ at k5;go_wp2_with fail;refine(k5.call Vb 4 0 (.none _ Vb Vb Vb Vb) (λ_ h=>by cases h)).bw ?_;rintro s0⟨S6,k6⟩;change Hid _ at k6;go_wp2_with fail;refine(k6.call Vb 5 0 (.none _ Vb Vb Vb Vb) (λ_ h=>by cases h)).bw ?_;rintro L⟨S7,k0⟩;change Hid _ at k0;go_wp2_with fail;have k8:Kp no L (L.alloc (Yl #[V Yr 2,V Yr 4294967295] 38)):=oO;have F:=ai L (Yl #[V Yr 2,V Yr 4294967295] 38);generalize L.alloc _=w8 at *;have h8:=k0.kp k8;have G:=au F;have X:rm w8 0 0 _ (Q _ 2 2) [] [2,4294967295]:=
  ⟨.of (aq.nil w8),(λq s=>by cases s),Vc,Yp ⟨_,2,U,Vb,λk x hk=>by rw[Addr.add_lit,(ae F).1,Vv,Wk];exact hk⟩,(λq s=>by have:M L.heap.size=M q:=s;cases this;exact G),(λv J=>by simp at J;omega),Vc,Vb,Vb,Vb,Vb⟩
 refine(h8.call Vb 6 9 X (λq s=>by
  have:M L.heap.size=M q:=s;cases this;exact⟨G,λh=>h,λi=>k0.l.l.hp.new cQ i⟩)).mono ?_
 rintro r s1⟨rfl,S9,k7⟩;clear k8 F h8 X G;change Hid _ at k7;go_wp2_with fail;go_loopw [10,13,14] (λo i _ wr=> ∃(k:Nat) (S:gI),k<=t/\o= Yt Yk/\i= V O k/\LI w R (6+k) wr S) (λ_ i _ _=>t - (intOf i).toNat);case atStart=>exact⟨0,S9,Y,U,U,k7⟩
 case round=>
  obtain⟨k,S,hk,rfl,rfl,d⟩:=hrel;have l:=Z d;obtain⟨a1,c1,a2,c2,a3,c3,m⟩:=d.cells;obtain⟨tr,h0⟩:=bL S.tr;rw[<-h0]at m;obtain⟨e,-⟩:=ae m;clear d h0 m;by_cases u:only =Yk/\tr=Yk
  .obtain⟨rfl,rfl⟩:=u;by_cases h1:k<t;all_goals
    go_wp2_with fail;go_ret;exact⟨U,l.k⟩
  .by_cases h1:k<t
   .obtain⟨kd,a,b,c,sv,lv,k1,k2,e0,e1,e2,e3,e4,e5,j⟩:=P k h1;obtain⟨aS,oS,cS,J,-,K⟩:=g.get e0;obtain⟨_,_,_,T,-,n⟩:=g.get e1;obtain⟨_,_,_,h2,-,y⟩:=g.get e2;obtain⟨_,_,_,h3,-,C⟩:=g.get e3;obtain⟨_,_,_,h4,-,D⟩:=g.get e4;obtain⟨_,_,_,h5,-,I⟩:=g.get e5;cases J;cases T;cases h2;cases h3;cases h4;cases h5;rw[<-VR]at n y C D I;replace K:=l.k.aY K;replace n:=l.k.aY n;replace y:=l.k.aY y;replace C:=l.k.aY C;replace D:=l.k.aY D;replace I:=l.k.aY I;obtain⟨w6,w7,rfl,-⟩:=j.s.aJ;obtain⟨al,cl,rfl,-⟩:=j.l.aJ;clear e0 e1 e2 e3 e4 e5;change Hid _ at j;rcases(show only =Yj\/only =Yk/\tr=Yj by cases only <;>cases tr<;>simp at u⊢)with rfl |⟨rfl,rfl⟩
    all_goals
     clear u;by_cases w9:10<kd
     .go_wp2_with fail;go_roundw;case rel=>exact⟨k+1,S,Y,U,by go_num,l.le Y⟩
      case measure=>simp[intOf];omega
     .go_wp2_with fail;refine(l.call Y kd c (j.kp l.k) (λq s=>l.old (j.ll q s))).bw ?_;rintro wp⟨N,p⟩;clear K n y C D I e;change Hid _ at p;go_wp2_with fail;refine(p.looks Y).bw ?_;rintro wq s;change Hid _ at s;go_wp2_with fail;go_roundw;case rel=>exact⟨k+1,N,Y,U,by go_num,s⟩
      case measure=>simp[intOf];omega
   .obtain⟨I,c⟩:∃n,n=S.ed.length:=⟨_,U⟩;obtain⟨T,J⟩:=bL S.iG;rw[<-c]at e;have h6:=l.l.l.i4;have k1:=l.l.l.s4;rw[<-c]at h6;rw[<-J]at k1 e;have b:=Z (show LI w R (6+k) wr S/\Sm T I S from⟨l,J.symm,c.symm⟩);clear c J l;obtain⟨C,hC⟩:=bL (6+k);rw[<-hC]at b;have w6:C<=10000006:=Y
    clear hC;rcases(show only =Yj\/only =Yk/\tr=Yj by cases only <;>cases tr<;>simp at u⊢)with rfl |⟨rfl,rfl⟩
    all_goals
     clear u;go_wp2_with fail;go_loopw [10,15,16,17] (λo i _ _ wr=> ∃(q:Nat) (S:gI),q<=I/\o= Yt Yk/\i= V O q/\LI w R (C+2*q) wr S/\Sm T I S) (λ_ i _ _ _=>I - (intOf i).toNat);case atStart=>exact⟨0,S,Y,U,U,b⟩
     case round=>
      obtain⟨q,S,s,rfl,rfl,d,a⟩:=hrel;clear b e;have b:=Z (And.intro d a);obtain⟨a1,c1,a2,c2,a3,c3,m⟩:=d.cells;rw[a.1,a.2]at m;obtain⟨e,-⟩:=ae m;clear d a m;by_cases h2:q<I
      .go_wp2_with fail;refine(b.1.mem Y b.2 h2).bw ?_;rintro wp⟨N,p⟩;clear e;change Hid _ at p;go_wp2_with fail;refine(p.1.adm Y p.2 h2).bw ?_;rintro wq⟨n,j⟩;change Hid _ at j;go_wp2_with fail;go_roundw;case rel=>exact⟨q+1,n,Y,U,by go_num,j⟩
       case measure=>simp[intOf];omega
      .obtain⟨D,hD⟩:=bL (C+2*q);rw[<-hD]at b;have w7:D<=10000014:=Y
       clear hD;go_wp2_with fail;go_loopw [10,18,19] (λo i _ wr=> ∃(q:Nat) (S:gI),q<=T.length/\o= Yt Yk/\i= V O q/\LI w R (D+9*q) wr S/\Sm T I S) (λ_ i _ _=>T.length - (intOf i).toNat);case atStart=>exact⟨0,S,Y,U,U,b⟩
       case round=>
        obtain⟨q,S,s,rfl,rfl,d,a⟩:=hrel;clear b e;have b:=Z (And.intro d a);obtain⟨a1,c1,a2,c2,a3,c3,m⟩:=d.cells;rw[a.1,a.2]at m;obtain⟨e,-⟩:=ae m;clear d a m;by_cases K:q<T.length
        .obtain⟨x,hx⟩:∃x,T[q]?=M x:=⟨_,Vj K⟩;go_wp2_with fail;refine(b.1.bG Y b.2 K).bw ?_;rintro wp⟨N,p⟩;have H':=Z p;obtain⟨-,-,-,-,-,-,-,-,-,-,-,-,-,h8,-⟩:=p.1.store (by rw[p.2.1];exact hx);obtain⟨Ln,n⟩:=bL x.st.length;rw[<-n]at h8;clear p e;change Hid _ at hx n;go_wp2_with fail;go_loopw [10,19] (λo i wr=> ∃(j:Nat) (S:gI),j<=Ln/\o= Yt Yk/\i= V O j/\LI w R (D+9*q+1+j) wr S/\Sm T I S) (λ_ i _=>Ln - (intOf i).toNat);case atStart=>exact⟨0,N,Y,U,U,H'⟩
         case round=>
          obtain⟨j,S,hj,rfl,rfl,d,a⟩:=hrel;clear b H';have b:=Z (And.intro d a);obtain⟨aM,oM,cM,w9,ck,a1,c1,a3,c3,m,g1,g2,g3,-,g4⟩:=d.store (by rw[a.1];exact hx);rw[a.1,a.2]at m;rw[<-n.out]at g2 g3;obtain⟨e,-⟩:=ae m;obtain⟨k2,-⟩:=ae g2;clear d a m g2;change Hid _ at g4;replace g3:=Z g3;by_cases e0:j<Ln
          .have i:j<(x.st.map (·.1)).length:=by rw[VH];have:=n.out;omega
           have o:(aQ (x.st.map (·.1)))[j]?=M (V O ((x.st.map (·.1)).getD j 0)):=by simp[aQ,Vj (show j<x.st.length by simpa using i)]
           obtain⟨ak,ok,cK,h3,-,h4⟩:=g3.get o;simp only[Vz]at h3;obtain⟨rfl,-,rfl⟩:=h3;have hy:=g4 _ (show(x.st.map (·.1)).getD j 0∈x.st.map (·.1)by rw[Vl,Vj i];exact XH i);obtain⟨y,h5⟩:=bL ((x.st.map (·.1)).getD j 0);rw[<-h5]at h4 hy;clear o h5 i;change Hid _ at hy;go_wp2_with fail;refine(b.1.get Y b.2 K hy.1 hy.2).bw ?_;rintro wp⟨N,p⟩;clear e k2 g1 h4;change Hid _ at p;go_wp2_with fail;go_roundw;case rel=>exact⟨j+1,N,Y,U,by go_num,p⟩
           case measure=>simp[intOf];omega
          .go_wp2_with fail;go_roundw;case rel=>exact⟨q+1,S,Y,U,by go_num,b.1.le Y,b.2⟩
           case measure=>simp[intOf];omega
        .go_wp2_with fail;go_ret;exact⟨U,b.1.k⟩
end
section
open Go.RowKit
def BW{P:Prop}(h:P:=by
 go_wp2_with fail;refine hp.bw ?_;rintro b a;go_wp2_with fail;go_ret;exact⟨U,a⟩):P:=h
def aaU{w:Yw}(h:xq w v i)(b:i<=10000000)(c:rY w)(d:nz w):
  Yy prog 4 #[v] w (PlP w):=by
 have hp:=yK Yk h b c d;obtain⟨e,a,-⟩:=h;obtain⟨f,g,rfl,-⟩:=a.aJ;go_enter func4,ntmps4;exact BW
def QR{w:Yw}(h:xq w v i)(b:i<=10000000)(c:rY w)(d:nz w):
  Yy prog 10 #[v] w (PlP w):=by
 have hp:=yK Yj h b c d;obtain⟨e,a,-⟩:=h;obtain⟨f,g,rfl,-⟩:=a.aJ;go_enter func10,ntmps10;exact BW
end
end Go.Proofs.YtdeplgkhmebalaaGreatDoor
