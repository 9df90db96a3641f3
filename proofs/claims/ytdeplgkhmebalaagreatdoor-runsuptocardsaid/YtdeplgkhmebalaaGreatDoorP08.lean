/- The document's reader and the program's agree: a function's part. -/
import Derived.Test.YtdeplgkhmebalaaGreatDoorP7b
set_option linter.all false
set_option maxHeartbeats 8000000
set_option maxRecDepth 100000
variable{W:Go.World}{a N o:Nat}{u z:Go.Value}{D:List UInt8}{F:List Go.Value}{R:Nat->Prop}{T:Go.TypeId}
namespace Go.Proofs.YtdeplgkhmebalaaGreatDoor
open Bool renaming false->Yj,true->Yk
open Except renaming error->Ym,ok->Yn
open Go renaming Calls->Yy,Value->Yx,World->Yw
open Go.Ending renaming returned->Yq
open Go.IntKind renaming i64->O,u64->Yr,u8->Ys
open Go.Obj renaming cells->Yl
open Go.Value renaming bool->Yt,int->V,pointer->Yv,slice->Q,tuple->Yu
open Option renaming none->H,some->M
open Or renaming inl->Yo,inr->Yp
open Proofs.Tryz
variable{e A:Rf.PE}{J K:Bd}
section
open Go.RowKit
def Rf.gO(E:Rf.PE)(funcs:List (List UInt8×List UInt8))(bO:List (UInt8×UInt8×Nat))(typ:List UInt8×List UInt8)(i:Nat):Rf.PS:=
 match Rf.uM E 2000 (Yn i)with
 |(_,Ym e)=> Ym e
 |(n,Yn j)=>
  if E.data.length<j+n then Ym (2,(i:Int))else
  let k:=Rf.uM {E with en:=j+n} ((32:Int)-typ.1.length) (Yn j)
  let t:=Rf.dF {E with en:=j+n} k.1 k.2
  match (Rf.az ⟨typ.1++t.1,funcs,bO⟩ 2001 {E with en:=j+n,d:=0} [typ.2] typ.2 Yj [] Yj t.2).2 with
  | Ym e=> Ym e
  | Yn q=>if q<j+n then Ym (2,(q:Int))else Yn q
def GR{E:Rf.PE}(he:E.en=E.data.length)(hl:E.data.length<=2000){typ:List UInt8×List UInt8}(hp:typ.1.length<=32)(o:List Ty)(f:List (UInt8×UInt8×Nat))(s:List dQ){i:Nat}(hi:i<=E.en):
  Rf.gO E o f typ i=match nD E.data o (f.map λg=>(g.1,g.2.1==1)) typ s i with | Ym e=> Ym e| Yn (_,q)=> Yn q:=by
 have m:=Cq (E:=E) (i:=i) Y 2000 hi;rw[he,Wh]at m;have hr:=Oc (D:=E.data) (i:=i) Y;unfold Rf.gO nD;unfold bp at m;generalize Rf.uM E 2000 (Yn i)=v at *;obtain⟨v1,B⟩:=v;cases C:UM E.data i with
 |error e=>
  rw[C]at m;have:B= Ym e:=m;rw[this]
 |ok x=>
  obtain⟨a,j⟩:=x;rw[C]at m;have hj:=hr.ok C;simp only at m⊢;by_cases h3:(2000:Int)+1<=(a:Int)
  .rw[Vi h3]at m;have:B= Ym (2,(i:Int)):=m;grind
  .rw[Va h3]at m;have hv:=m;have F:v1=a:=Vy Prod.fst hv;have I:B= Yn j:=Vy Prod.snd hv;rw[F,I];simp only;by_cases h4:E.data.length<j+a
   .grind
   .rw[Va h4,Va Y];have t:(E.data.take (j+a)).length=j+a:=Ve
    have w:=Cq (E:={E with en:=j+a}) (i:=j) Ve ((32:Int)-typ.1.length) Vc;have J:gF (Rf.uM {E with en:=j+a} ((32:Int)-typ.1.length) (Yn j)) (bp (E.data.take (j+a)) (((32-typ.1.length:Nat):Int)+1) j):=by
     grind
    have K:=cY (D:=E.data.take (j+a)) (i:=j) (((32-typ.1.length:Nat):Int)+1) Y;unfold gN;generalize Rf.uM {E with en:=j+a} ((32:Int)-typ.1.length) (Yn j)=k at *;cases hb:bp (E.data.take (j+a)) (((32-typ.1.length:Nat):Int)+1) j with
    |error e=>
     grind[Rf.dF,qA,mr,gF.err]
    |ok y=>
     obtain⟨n,q⟩:=y;have L:=K.ok hb;rw[t]at L;rw[J.ok hb];simp only;have ht:=xP (E:={E with en:=j+a}) (i:=q) Ve n L;have u:=ht;have N:=qz (n:=j+a) (one:=bP (E.data.take (j+a)) [127,126]) (λi hi=>by grind[eF]) n q L;cases P:cD (bP (E.data.take (j+a)) [127,126]) n q with
     |error e=>
      rw[u.err P,mr]
     |ok z=>
      obtain⟨l,S⟩:=z;have T:=N.ok P;rw[u.ok P];simp only;have A:Ag {E with en:=j+a,d:=0} ⟨typ.1++l,o,f⟩ ⟨E.data.take (j+a),o,f.map λg=>(g.1,g.2.1==1),typ.1++l⟩:=⟨Ve,U,U,U,U⟩;have R:Rl {E with en:=j+a,d:=0} ⟨S,s,[],[⟨0,typ.2,0,0,[]⟩],0,Yj⟩ [typ.2] [] []:=⟨T,U,Vc,U,U⟩;have W:=OT (G:=⟨typ.1++l,o,f⟩) (c:=⟨E.data.take (j+a),o,f.map λg=>(g.1,g.2.1==1),typ.1++l⟩) 2001 {E with en:=j+a,d:=0} _ _ _ _ A R U Ve;change wK _ (j+a) _ [] (Rf.az ⟨typ.1++l,o,f⟩ 2001 {E with en:=j+a,d:=0} [typ.2] typ.2 Yj [] Yj (Yn S))at W;generalize Rf.az ⟨typ.1++l,o,f⟩ 2001 {E with en:=j+a,d:=0} [typ.2] typ.2 Yj [] Yj (Yn S)=r at *;obtain⟨b,σ⟩:=r;cases σ with
      |error e=>
       obtain⟨k,w,h⟩:=W;have g:=w;have:=Sa k (2000-k) _ e h;grind
      |ok p=>
       obtain⟨h5,h6,h⟩:=W;cases b with
       |true=>
        rw[Vi U]at h;exact absurd (show(0:Nat)=3 from h.1) Vb
       |false=>
        rw[Va (X6),Va (by rintro⟨h,-⟩;exact absurd (show(0:Nat)=3 from h) Vb)]at h;obtain⟨k,s',w,hs,e,-,-,X⟩:=h;have h0:=X3.1 X;have g:=w;have:=Jf k (2001-k) _ _ hs;have h1:∀(cc:nt),cc.D.length=j+a->gw cc (2001-k) s'=if p<j+a then Ym (2,(p:Int))else Yn s':=by
         intro cc h2;rw[show 2001-k=(2000-k)+1 by omega,gw,Vi h0,e,h2]
        rw[show k+(2001-k)=2001 by omega,h1 _ t]at this;rw[this];simp only;by_cases h2:p<j+a<;>grind
theorem Jj(E:Rf.PE)(a:Int)(e:Int×Int):(Rf.uM E a (Ym e)).2= Ym e:=Vg
theorem abh(E:Rf.PE)(a:Nat)(e:Int×Int):(Rf.sM E a (Ym e)).2= Ym e:=by
 unfold Rf.sM;simp only[Rf.jX (show Rf.bn (Except.error e)=Yk from U)];rfl
theorem pJ(E:Rf.PE)(a b c:UInt8)(e:Int×Int):(Rf.cB E a b c (Ym e)).2= Ym e:=by
 unfold Rf.cB;show(if _ then Rf.cA 2 _ (Except.error e)else Except.error e)=_
 split <;>rfl
def Rf.ld(E:Rf.PE)(most:Int)(σ:Rf.PS):List UInt8×Rf.PS:=Rf.dF E (Rf.uM E most σ).1 (Rf.uM E most σ).2
def Rf.iN(E:Rf.PE)(σ:Rf.PS):(List UInt8×List UInt8)×Rf.PS:=(((Rf.ld E 8 σ).1,(Rf.ld E 1 (Rf.ld E 8 σ).2).1),(Rf.ld E 1 (Rf.ld E 8 σ).2).2)
def Rf.pK{α:Type}(one:Rf.PS->α×Rf.PS):Nat->List α->Rf.PS->List α×Rf.PS
 |0,l,σ=>(l,σ)
 |n+1,l,σ=>if Rf.bn σ then (l,σ)else pK one n (l++[(one σ).1]) (one σ).2
def Rf.rf(E:Rf.PE)(ts:List (List UInt8×List UInt8))(σ:Rf.PS):(List UInt8×List UInt8)×Rf.PS:=(ts.getD (Rf.uM E ((ts.length:Int)-1) σ).1 ([],[]),(Rf.uM E ((ts.length:Int)-1) σ).2)
def Rf.ox(E:Rf.PE)(t:UInt8)(σ:Rf.PS):Nat×Rf.PS:=if t=127 then Rf.sM E 32 σ else Rf.sM E 64 σ
def Rf.lf(E:Rf.PE)(σ:Rf.PS):(UInt8×UInt8×Nat)×Rf.PS:=
 let t:=Rf.cB E 127 126 126 σ
 let f:=Rf.cB E 0 1 1 t.2
 let v:=Rf.ox E t.1 f.2
 ((t.1,f.1,v.1),v.2)
def rz(D:List UInt8)(i:Nat):Rd (UInt8×UInt8×Nat):=
 match bP D [127,126] i with
 | Ym e=> Ym e
 | Yn (t,j)=>match bP D [0,1] j with
  | Ym e=> Ym e
  | Yn (f,k)=>match kK D t k with
   | Ym e=> Ym e
   | Yn (v,m)=> Yn ((t,f,v),m)
def Et(D:List UInt8)(i:Nat):jE D i=match rz D i with | Ym e=> Ym e| Yn (g,j)=> Yn (((g.1,g.2.1==1),g.2.2),j):=by
 grind[jE,rz]
def OU{a b:Type}{m:Nat->Rd b}{m':Nat->Rd a}{g:a->b}(h:∀i,m i=match m' i with | Ym e=> Ym e| Yn (x,j)=> Yn (g x,j)):∀n i,cD m n i=match cD m' n i with | Ym e=> Ym e| Yn (l,j)=> Yn (l.map g,j):=by
 intro n;induction n with
 |zero=>intro i;rfl
 |succ n ih=>
  grind[cD]
def Eu{a:Type}(one:Rf.PS->a×Rf.PS)(n:Nat)(l:List a)(e:Int×Int):(Rf.pK one n l (Ym e)).2= Ym e:=by
 cases n with
 |zero=>rfl
 |succ n=>rfl
def KY{a:Type}{one:Rf.PS->a×Rf.PS}{m:Nat->Rd a}(d:∀i,i<=N->gF (one (Yn i)) (m i))(f:∀i,i<=N->Rb N (m i)):∀(n i:Nat) (l:List a),i<=N->gF (Rf.pK one n l (Yn i)) (match cD m n i with | Yn (x,j)=> Yn (l++x,j)| Ym e=> Ym e):=by
 intro n;induction n with
 |zero=>
  intro i l _;show(l,Except.ok i)=(l++[],Except.ok i)
  simp
 |succ n ih=>
  intro i l hi;have b:=d i hi;have g:=f i hi;rw[Rf.pK,Va (by simp[Rf.bn]),cD];cases c:m i with
  |error e=>
   rw[b.err c];exact Eu _ _ _ _
  |ok x=>
   obtain⟨x,j⟩:=x;rw[b.ok c];grind[Rb.ok]
section
variable{E:Rf.PE}{i:Nat}(he:E.en<=E.data.length)
include he
def Jk(n:Nat)(hi:i<=E.en):gF (Rf.ld E n (Yn i)) (gN (E.data.take E.en) n i):=by
 have a:=Cq he (n:Int) hi;have c:=cY (D:=E.data.take E.en) (i:=i) ((n:Int)+1) Ve;unfold Rf.ld gN;cases b:bp (E.data.take E.en) ((n:Int)+1) i with
 |error e=>
  rw[a.err b];exact qA _ _ _ _
 |ok x=>
  obtain⟨k,j⟩:=x;rw[a.ok b];grind[xP,Rb.ok]
theorem OV(a:Int)(e:Int×Int):(Rf.ld E a (Ym e)).2= Ym e:=by
 rfl
theorem Sd(hi:i<=E.en):gF (Rf.iN E (Yn i)) (nC (E.data.take E.en) i):=by
 have f:=Jk he 8 hi;have k:=sV (D:=E.data.take E.en) (i:=i) 8 Ve;unfold Rf.iN nC;cases b:gN (E.data.take E.en) 8 i with
 |error e=>
  have:=f.err b;show(Rf.ld E 1 (Rf.ld E 8 (Except.ok i)).2).2=Except.error e
  grind[OV]
 |ok x=>
  obtain⟨p,j⟩:=x;have c:Rf.ld E 8 (Except.ok i)=(p,Except.ok j):=f.ok b;rw[c];have g:=k.ok b;rw[ja he]at g;have h:=Jk he 1 g;simp only;cases a:gN (E.data.take E.en) 1 j with
  |error e=>exact h.err a
  |ok y=>
   obtain⟨r,q⟩:=y;have d:Rf.ld E 1 (Except.ok j)=(r,Except.ok q):=h.ok a;rw[d];rfl
theorem UT(a:List Ty)(hi:i<=E.en):gF (Rf.rf E a (Yn i)) (match bp (E.data.take E.en) a.length i with | Ym e=> Ym e| Yn (k,j)=> Yn (a.getD k ([],[]),j)):=by
 have b:=Cq he ((a.length:Int)-1) hi;rw[show((a.length:Int)-1+1)=a.length by omega]at b;unfold Rf.rf;cases c:bp (E.data.take E.en) a.length i with
 |error e=>exact b.err c
 |ok x=>
  obtain⟨k,j⟩:=x;rw[b.ok c];rfl
def OW(t:UInt8)(hi:i<=E.en):gF (Rf.ox E t (Yn i)) (kK (E.data.take E.en) t i):=by
 unfold Rf.ox kK;by_cases h:t=127<;>simp_all[Om,On]
theorem Se(hi:i<=E.en):gF (Rf.lf E (Yn i)) (rz (E.data.take E.en) i):=by
 have n:=qB he (a:=127) (b:=126) (c:=126) (al:=[127,126]) Vc hi;have s:=eF (D:=E.data.take E.en) (i:=i) [127,126] Ve;have u:∀(t:UInt8) (e:Int×Int),(Rf.ox E t (Ym e)).2= Ym e:=by
  grind[Rf.ox,abh]
 unfold Rf.lf rz;simp only;cases h:bP (E.data.take E.en) [127,126] i with
 |error e=>
  have d:=n.err h;show(Rf.ox E _ (Rf.cB E 0 1 1 (Rf.cB E 127 126 126 (Except.ok i)).2).2).2=Except.error e
  grind[pJ]
 |ok x=>
  obtain⟨t,j⟩:=x;rw[n.ok h];have o:=s.ok h;rw[ja he]at o;have p:=qB he (a:=0) (b:=1) (c:=1) (al:=[0,1]) Vc o;have l:=eF (D:=E.data.take E.en) (i:=j) [0,1] Ve;simp only;cases d:bP (E.data.take E.en) [0,1] j with
  |error e=>
   have f:=p.err d;show(Rf.ox E _ (Rf.cB E 0 1 1 (Except.ok j)).2).2=Except.error e
   grind
  |ok y=>
   obtain⟨f,k⟩:=y;rw[p.ok d];have q:=l.ok d;rw[ja he]at q;have r:=OW he t q;simp only;cases g:kK (E.data.take E.en) t k with
   |error e=>exact r.err g
   |ok z=>
    obtain⟨v,m⟩:=z;rw[r.ok g];rfl
end
structure uL where
 goal:Nat
 bt:List UInt8
 vt:List UInt8
def uL.ed(b:uL)(op:UInt8):dQ:=⟨op,0,b.goal,b.bt.length,b.vt.length⟩
inductive Lay (C:List dQ) (G:Rf.ez):List uL->List UInt8->List UInt8->List UInt8->Bool->Nat->List Nd->Nat->Prop
 |nil {L res base stack dead p} (h:dead=Yk\/stack=res):Lay C G L res base stack dead p [] p
 |one {L res base stack p x y m l q} (hx:x≠12/\x≠13/\x≠14/\x≠15) (hb:x≠2/\x≠3/\x≠4/\x≠5/\x≠11) (hk:Rf.fO x=Yk) (hy:∃E ag j k,Rf.aX E G ag stack x.toNat (Yn j)=(y,Yn k)) (hok:y.ok=Yk) (hm:stack=m++y.take)
   (hp:p<C.length) (hc:C.getD p bD=⟨x,y.n,0,0,0⟩) (t:Lay C G L res base (m++y.put) (decide (x=0)) (p+1) l q):Lay C G L res base stack Yj p (⟨x,y.n,y.ag,[],[],y.value⟩::l) q
 |br {L res base stack p x n v k lb m} (hx:x=12\/x=15) (hL:L[k]?=M lb) (hm:stack=m++lb.vt) (hp:p<C.length) (hc:C.getD p bD=lb.ed 12):Lay C G L res base stack Yj p [⟨x,n,[((L.length-1-k:Nat):Int)],[],[],v⟩] (p+1)
 |abf {L res base stack p n v k lb m l q} (hL:L[k]?=M lb) (hm:stack=m++lb.vt++[127]) (hp:p<C.length) (hc:C.getD p bD=lb.ed 13) (t:Lay C G L res base (m++lb.vt) Yj (p+1) l q):
   Lay C G L res base stack Yj p (⟨13,n,[((L.length-1-k:Nat):Int)],[],[],v⟩::l) q
 |tab {L res base stack p n v n'} {ks:List Nat} {vt m} (hm:stack=m++vt++[127]) (hl:ks.length=n+1) (hp:p<C.length) (hc:C.getD p bD=⟨14,n,0,0,0⟩)
   (hk:∀j k,ks[j]?=M k->k<L.length/\ ∃lb,L[k]?=M lb/\lb.vt=vt/\p+1+j<C.length/\C.getD (p+1+j) bD=lb.ed 12):Lay C G L res base stack Yj p [⟨14,n',ks.map (λk=>((L.length-1-k:Nat):Int)),[],[],v⟩] (p+n+2)
 |az {L res base stack p x n r b q1 l q} (hx:x=2\/x=3) (hr:r.length<=1) (hp:p<C.length) (hc:(C.getD p bD).op=x) (t1:Lay C G (L++[⟨if x=3 then p+1 else q1,base++stack,if x=3 then []else r⟩]) r (base++stack) [] Yj (p+1) b q1)
   (t2:Lay C G L res base (stack++r) Yj q1 l q):Lay C G L res base stack Yj p (⟨x,n,[],b,[],r.length⟩::l) q
 |ifn {L res base stack p n m b q1 l q} (hm:stack=m++[127]) (hp:p<C.length) (hc:C.getD p bD=⟨4,0,q1,(base++m).length,0⟩) (t1:Lay C G (L++[⟨q1,base++m,[]⟩]) [] (base++m) [] Yj (p+1) b q1)
   (t2:Lay C G L res base m Yj q1 l q):Lay C G L res base stack Yj p (⟨4,n,[],b,[],0⟩::l) q
 |ife {L res base stack p n m r b q1 c q2 l q} (hm:stack=m++[127]) (hr:r.length<=1) (hp:p<C.length) (hc:C.getD p bD=⟨4,0,q1+1,(base++m).length,0⟩) (t1:Lay C G (L++[⟨q2,base++m,r⟩]) r (base++m) [] Yj (p+1) b q1)
   (hp1:q1<C.length) (hc1:C.getD q1 bD=⟨5,0,q2,(base++m).length,r.length⟩) (t3:Lay C G (L++[⟨q2,base++m,r⟩]) r (base++m) [] Yj (q1+1) c q2)
   (t2:Lay C G L res base (m++r) Yj q2 l q):Lay C G L res base stack Yj p (⟨4,n,[],b,c,r.length⟩::l) q
end
namespace Rf
section
open Go.RowKit
def AD{P:Prop}(h:P:=by
 unfold uM at hb⊢;simp only at hb⊢;split
 .rfl
 .split
  .rfl
  .rename_i a b;rw[Va a,Va b]at hb;exact absurd hb a):P:=h
def KU(h:dR W a A (Yn N))(y:A.en=A.data.length)(g:bn (uM A 2000 (Yn N)).2=Yk\/ ∃j,(uM A 2000 (Yn N)).2= Yn j/\A.data.length<j+(uM A 2000 (Yn N)).1)(f:Nat)(b:List (List UInt8×List UInt8))(c:List (UInt8×UInt8×Nat))(d:List UInt8×List UInt8):
  df 119 #[ptr a,V O f] W (Yu #[]) λe=>dR e a A (gO A b c d N)/\bn (gO A b c d N)=Yk/\Kp (one a) W e:=by
 have z:=kH h 2000;have u:gO A b c d N=cA 2 N (uM A 2000 (Yn N)).2/\bn (gO A b c d N)=true:=by
  unfold gO;generalize uM A 2000 (Yn N)=v at *;obtain⟨n,i⟩:=v;cases i with
  |error e=>exact⟨U,U⟩
  |ok j=>
   rcases g with hb|⟨l,k,e⟩
   .cases hb
   .cases k;simp only at e⊢;rw[Vi e];exact⟨U,U⟩
 generalize gO A b c d N=R at *;have B:(uM A 2000 (Yn N)).1<=2000:=by
  cases hb:bn (uM A 2000 (Yn N)).2 with
  |false=>have:=uq A 2000 (Yn N) hb;omega
  |true=>
   have:(uM A 2000 (Yn N)).1=0:=by
    exact AD
   omega
 generalize uM A 2000 (Yn N)=v at *;obtain⟨n,i⟩:=v;obtain⟨hi,hb⟩:=h.ok N U;obtain⟨L,-⟩:=ae hb;have C:=h.len;have l:=h.bytes;obtain⟨P,D,m,_⟩:=l.aJ;go_enter func119,ntmps119;go_wp2_with fail;refine z.bw ?_;rintro S⟨k,w⟩;obtain⟨x,E,F,G,o,p,-⟩:=k.dT;obtain⟨q,-⟩:=ae o;rw[m]at q;by_cases I:(A.data.length:Int)<(x:Int)+(n:Int)
 .go_wp2;go_quiet(fail);go_wp2_with fail;refine(dJ (k.keep ((Kp.refl no _).drewN _) bW) _ _ Vb).bw ?_;rintro T⟨t,J⟩;have K:bn (cA 2 N i)=true:=gu 2 N;go_wp2_with fail;refine(bz t).cJ ?_;go_wp2;first |go_end0|(refine bodyPost_ret (v:= Yu #[]) (by simp[results,results119,go_sem]) U ?_)
  obtain⟨r,s⟩:=u;refine⟨U,?_,s,(w.drewN _).trans J⟩;rw[r];exact t
 .have t:bn i=true:=by
   rcases g with h|⟨j,rfl,e⟩
   .exact h
   .rcases p with h|h
    .have :(x:Int)=j:=h;omega
    .exact h
  go_wp2;go_quiet(fail);go_wp2_with fail;refine(bz (k.keep ((Kp.refl no _).drewN _) bW)).cJ ?_;go_wp2;first |go_end0|(refine bodyPost_ret (v:= Yu #[]) (by simp[results,results119,go_sem]) U ?_)
  obtain⟨r,s⟩:=u;refine⟨U,?_,s,w.drewN _⟩;rw[r,je t];exact k.keep ((Kp.refl no _).drewN _) bW
structure Al(E' E:PE):Prop where
 d:E'.data=E.data
 e:E'.en=E.en
def Al.next(h:Al e A):b8 e=b8 A:=by
 funext σ
 cases σ<;>simp[b8,h.d,h.e]
def Al.need(h:Al e A):cB e=cB A:=by
 funext a b c σ
 unfold cB;rw[h.next]
def Al.num(h:Al e A)(a:Int)(r:Nat):∀(b:List Bool) (c:PS),gT e a r b c=gT A a r b c:=by
 induction r with
 |zero=>intro b c;rfl
 |succ r ih=>
  intro b c;unfold gT;rw[h.next];grind
def Al.number(h:Al e A):bH e=bH A:=by
 funext m σ
 exact h.num _ _ _ _
def Al.uAl(h:Al e A):uM e=uM A:=by
 funext m σ
 unfold uM;rw[h.number]
def Al.sAl(h:Al e A):sM e=sM A:=by
 funext m σ
 unfold sM;rw[h.number]
def Al.eY(h:Al e A)(r:Nat):∀(l:List UInt8) (a:PS),Rf.eY e r l a=Rf.eY A r l a:=by
 induction r with
 |zero=>intro l a;rfl
 |succ r ih=>
  intro l a;unfold Rf.eY;rw[h.need];grind
def Al.types(h:Al e A):dF e=dF A:=by
 funext n σ
 exact h.eY _ _ _
def Al.Uc(h:Al e A):bf e=bf A:=by
 funext l σ
 unfold bf;rw[h.uAl]
theorem Al.tab(h:Al e A)(c:List (List UInt8))(r:Nat):∀(k:Nat) (first :List UInt8) (a:Bool) (b:List Int) (d:PS),eD e c r k first a b d=eD A c r k first a b d:=by
 induction r with
 |zero=>intro k first a b d;rfl
 |succ r ih=>
  intro k first a b d
  unfold eD;rw[h.Uc];grind
def Al.table(h:Al e A):er e=er A:=by
 funext l σ
 unfold er;rw[h.uAl];grind[tab]
def Al.plain(h:Al e A):iX e=iX A:=by
 funext G op σ
 unfold iX eK dn;rw[h.uAl,h.sAl]
def Al.abg(h:Al e A):aX e=aX A:=by
 funext G ag stack op σ
 unfold aX;rw[h.need,h.Uc,h.table,h.uAl,h.plain]
theorem Al.az(G:ez)(f:Nat):∀{E' E:PE},Al E' E->E'.d=E.d->Rf.az G f E'=Rf.az G f E:=by
 induction f with
 |zero=>intro E' E _ _;rfl
 |succ f ih=>
  intro E' E h a;funext ag aL other stack dead σ;have hi:=ih h a;have b:=ih (E':={E' with d:=E'.d+1}) (E:={E with d:=E.d+1}) ⟨h.d,h.e⟩ Ve;unfold Rf.az et;rw[h.next,h.abg,hi,a];rw[a]at b;simp only[b]
theorem Al.body{E' E:PE}(h:Al E' E):gO E'=gO E:=by
 funext funcs bO typ i
 unfold gO;rw[h.uAl,h.d];have a:∀k:Nat,Al {E' with en:=k} {E with en:=k}:=λk=>⟨h.d,U⟩
 have b:∀(k:Nat) (G:ez) (f:Nat),Rf.az G f {E' with en:=k,d:=0}=Rf.az G f {E with en:=k,d:=0}:=λk G f=>Al.az G f ⟨h.d,U⟩ rfl
 have c:∀(k:Nat),uM {E' with en:=k}=uM {E with en:=k}:=λk=>(a k).uAl
 have e:∀(k:Nat),dF {E' with en:=k}=dF {E with en:=k}:=λk=>(a k).types
 simp only[h.d]at b c e;simp_all
def uN(E:PE)(n:Nat):∀(l:List UInt8) (a:PS),(eY E n l a).1.length<=l.length+n:=by
 induction n with
 |zero=>intro l a;exact VP _
 |succ n ih=>
  intro l a;unfold eY;grind
theorem dy.put{mb base l cap:Nat}{gv:Yx}{bI:Int}{c:List (List UInt8×List UInt8)}{f:List (UInt8×UInt8×Nat)}(h:dy W N mb base z (Q (M ⟨a,o,H⟩) l cap) gv bI c f){q:Nat}(F:q%4=2\/q%4=3)(u:Yx):dy (W.setCell ⟨a,o+q,H⟩ u) N mb base z (Q (M ⟨a,o,H⟩) l cap) gv bI c f:=by
 obtain⟨g,m,n⟩:=h.ny;obtain⟨p,r,s⟩:=aA m;have t:l=c.length:=Ve
 subst t;have k:Kp _ W (W.setCell ⟨a,o+q,H⟩ u):=(Kp.refl _ _).bK _ _;refine⟨h.ne,k.az h.az (λe=>h.fmb (by rw[show mb=a from e];rfl)),⟨g.set q u,M3 m u,λj x b=>?_⟩,h.NA,h.fmb,⟨h.gat.JQ,?_⟩,h.UA,h.B9,h.sA,h.F4⟩
 .obtain⟨v,w,G,I,y,A,B,C,i,D⟩:=n j x b;have J:=k.size;obtain⟨x,E⟩:=i a U;exact⟨v,w,Ve,Ve,y.kp k (λb d e=>x (by rw[d,show b=a from e])),A,B.kp k (λb d e=>E (by rw[d,show b=a from e])),C,i,λb d=>Ve⟩
 .obtain⟨v,w,i⟩:=h.gat.row;exact⟨v,w.kp k (λb d e=>h.UA a U (by rw[d,show b=a from e])),i⟩
def dR.other{w':Yw}{g:PS}(h:dR W N A g)(k:Kp (one a) W w')(c:a≠N)(j:B7 A.b A.data≠M a):dR w' N A g:=
 ⟨λi b=>⟨(h.ok i b).1,k.az (h.ok i b).2 (λe=>c e.symm)⟩,λe q b=>by
  obtain⟨l,i,hi,d⟩:=h.bad e q b;exact⟨l,i,hi,k.az d (λe=>c e.symm)⟩,h.bytes.kp k (λb f e=>j (by rw[f,show b=a from e])),h.low,h.len,h.en⟩
def vQ(E:PE)(funcs:List (List UInt8×List UInt8))(bO:List (UInt8×UInt8×Nat))(typ:List UInt8×List UInt8)(i:Nat)(more:List UInt8)(nodes:List Nd)(i':Nat):Prop:=
 ∃n j q E',uM E 2000 (Yn i)=(n,Yn j)/\j+n<=E.data.length/\dF {E with en:=j+n} (uM {E with en:=j+n} (32 - (typ.1.length:Int)) (Yn j)).1 (uM {E with en:=j+n} (32 - (typ.1.length:Int)) (Yn j)).2=(more,Yn q)/\E'.data=E.data/\E'.en=j+n/\E'.d=0/\
  Tree ⟨typ.1++more,funcs,bO⟩ E' [typ.2] typ.2 Yj [] Yj q nodes Yj i'/\i'=j+n
def vR(w w':Yw)(E:PE)(funcs:List (List UInt8×List UInt8))(bO:List (UInt8×UInt8×Nat))(typ:List UInt8×List UInt8)(f i:Nat)(fv:Yx):Prop:= ∀i',gO E funcs bO typ i= Yn i'->
 ∃a cap yX lv bv,fv= Q (M ⟨a,0,H⟩) funcs.length cap/\w.heap[a]?=M (Yl yX 193)/\f*4+3<yX.size/\w'.heap[a]?=M (Yl ((yX.setIfInBounds (f*4+2) lv).setIfInBounds (f*4+3) bv) 193)/\
  ∃more nodes,aq w' lv (typ.1++more)/\(∀b,lv.ownBlock=M b->jA w w' b)/\bh w' (jA w w') bv nodes/\vQ E funcs bO typ i more nodes i'
theorem vR.bad{w':Yw}{b:List (List UInt8×List UInt8)}{c:List (UInt8×UInt8×Nat)}{d:List UInt8×List UInt8}(h:bn (gO e b c d N)=Yk):vR W w' e b c d a N u:=λf hi=>by rw[hi]at h;cases h
theorem KV{w:Yw}{base:Nat}{E:PE}{i j n:Nat}{gv:Yx}{bI:Int}{s:List (List UInt8×List UInt8)}{x:List (UInt8×UInt8×Nat)}(h:dR w a E (Yn i))(x8:E.en=E.data.length)(hM:dy w a N base u z gv bI s x)(hm:E.m=ptr N)
  (hu:uM E 2000 (Yn i)=(n,Yn j))(e8:j+n<=E.data.length)(f:Nat){c:List UInt8×List UInt8}(hf:s[f]?=M c)(v1:a<base):
  df 119 #[ptr a,V O f] w (Yu #[]) λJ=> ∃jG,dR J a {E with jG:=jG,d:=0} (gO E s x c i)/\dy J a N base u z gv bI s x/\Kp (λk=>k=a\/z.ownBlock=M k) w J/\vR w J E s x c f i z:=by
 have k5:=kH h 2000;rw[hu]at k5;obtain⟨hi,hb⟩:=h.ok i U;obtain⟨ku,-⟩:=ae hb;have v2:=h.len;have HS:=Z h;have e9:=h.bytes;obtain⟨ad,v3,s0,_⟩:=e9.aJ;have v4:f<s.length:=by
  rcases VE f s.length with X|X
  .exact X
  .rw[Xm X]at hf;cases hf
 have v5:=hM.B9;have v6:=(hM.sA c (Vw hf)).1;have v7:wrap64 (32 - c.1.length)=32 - c.1.length:=by unfold wrap64;omega
 clear hb h;replace e9:=Z e9;change Hid _ at hM hf hu;replace k5:=Z k5;go_enter func119,ntmps119;go_wp2_with fail;refine k5.bw ?_;rintro w1⟨X,x6⟩;obtain⟨kv,x9⟩:=X.ok j U;obtain⟨H0,p4⟩:=ae x9;have p5:=Z X;have D:=hM.kp x6;obtain⟨p6,p7⟩:=ae D.az;obtain⟨v8,h0,H1⟩:=D.ny;obtain⟨pv,rv,H2,H3,k6,s1,k7,s2,p8,-⟩:=H1 f c hf;obtain⟨y,o0,s3,p9,_,v9⟩:=(aw.own h0).get H2;obtain⟨ha,hc,hd,q1,_,q2⟩:=(aw.own h0).get H3;have he:=h0.1;subst p9;cases q1;rw[<-VR]at q2;have h7:y≠a:=λe=>D.NA y U e
 have hg:y≠N:=λe=>D.fmb (by rw[<-e];rfl)
 obtain⟨H4,H5,rfl,_⟩:=k6.aJ;obtain⟨h1,h2,rfl,_⟩:=k7.aJ;have hj:=D.ne;rw[s0,hm]at H0;clear X H1 p8 H2 H3;change Hid _ at x9;replace h0:=Z h0;replace k7:=Z k7;replace k6:=Z k6;change Hid _ at D;go_wp2;go_quiet(fail);go_wp2_with fail;refine(bz (p5.keep ((Kp.refl no _).drewN _) bW)).cJ ?_;go_wp2_with fail;refine(kH (E:={E with en:=j+n}) (dR.turn p5 U U ((((Kp.refl _ w1).drewN _).bK _ _).alloc _) e8 (λq hq=>by cases hq;show j<=j+n;omega) (λq e p hb=>by exact ah (heap_setCell hb _))) _).bw ?_;rintro q3⟨q4,u8⟩;have kW:Kp _ w1 q3:=((((Kp.refl _ w1).drewN _).bK _ _).alloc _).trans u8;have hk:=p5.lt;have s4:q3.heap[w1.heap.size]?=M (Yl #[Q H4 c.1.length H5,Q h1 c.2.length h2] 190):=by
  refine u8.az (bC _ ?_) (by unfold one;omega);simp
 obtain⟨q5,q6⟩:=ae s4;have u9:=Z q4;have q7:((uM {E with en:=j+n} (32 - c.1.length) (Yn j)).1:Int)<=32:=by
  cases hb:bn (uM {E with en:=j+n} (32 - c.1.length) _).2 with
  |false=>have:=uq {E with en:=j+n} (32 - (c.1.length:Int)) (Yn j) hb;omega
  |true=>
   have:(uM {E with en:=j+n} (32 - c.1.length) (Yn j)).1=0:=by
    exact AD
   omega
 obtain⟨kk,h3⟩:=bL (uM {E with en:=j+n} (32 - c.1.length) (Yn j));rw[<-h3]at q7;have q8:Hid (dR q3 a {E with en:=j+n} kk.2):=Z (by rw[h3];exact u9);clear q4 u9;rw[<-h3];change Hid _ at h3;go_wp2_with fail;refine(JW q8 kk.1 Y).mono ?_;rintro e H6⟨mv,rfl,h8,H7,p1,p2⟩;obtain⟨i3,s5,s6,hl,h9,hn,-⟩:=p1.dT;obtain⟨k8,q9⟩:=ae h9;have s7:=p2.az s4 (show ¬one a w1.heap.size by unfold one;omega);obtain⟨r0,r1⟩:=ae s7;have v0:=Z p1;have hr:=p2.size;have hs:=kW.size;have H8:w1.heap.size≠a:=Y
 clear p1 q5 q6 s4 p6 p7 H0 p4;change Hid _ at H7;replace h8:=Z h8;change Hid _ at s7;replace h9:=Z h9;go_wp2_with fail;have H9:=heap_setCell (o:=6) h9 (Q H 0 0);have k9:=aB (o:=6) H8 (Q H 0 0) s7;have w0:Kp _ H6 (H6.setCell ⟨a,6,H⟩ (Q H 0 0)):=(Kp.refl _ _).bK _ _;generalize H6.setCell _ _=W3 at *;have k0:W3.heap[a]?=M (PE.dT {E with en:=j+n,jG:= Q H 0 0} i3 s5 s6):=H9;obtain⟨S,A⟩:=bL (λJ=>(∀q,J.cell? ⟨a,q,H⟩=#[E.m,E.b,V O i3,V O ((j+n:Nat):Int),V O s5,V O s6,Q H 0 0,V O E.d][q]?)/\(∀q,J.cell? ⟨w1.heap.size,q,H⟩=#[Value.slice H4 c.1.length H5,Q h1 c.2.length h2][q]?):Yw->Prop);have k1:∀W,Kp no W3 W->S W:=λW k=>by
  rw[A];exact⟨(ae (k.az k0 id)).1,(ae (k.az k9 id)).1⟩
 have w2:∀W,Kp no W3 W-> ∀q,W.frozen? ⟨a,q,H⟩=false:=λW k q=>(ae (k.az k0 id)).2 q
 have K0:=Z k1;have r2:=Z A;have r3:=Z w2;obtain⟨j1,K1,K2,K3,K4⟩:=mZ;have K5:∀W,Kp no W3 W->aq W _ c.1:=λW k=>((k6.one s1 kW).one s1 p2|>.one s1 w0).kp k bW
 clear k1 A w2 H9 k8 q9 r0 r1;change Hid _ at k0 k9 K5;refine rj 10 11 (S) ?hS λhS=>?_
 case hS=>exact K0 _ fL
 have A:=r2.out;subst A;refine tj 0 ?_;iterate 6 refine tn ?_
 refine oj 7 λK hK=>?_
 refine bJ _ Vg _ _ _ Vg W3.heap.size 5 j1 _ 1 1 underlying25 K1 K2 K3 K4 U Y _ 0 [] Vg (World.ownsRow_nil _ _ _ _) _ c.1.length (cw c.1) Vg (K5 _ fL) (bV _) ?c3 ?c4 ?c5 ?_;case c3=>unfold maxLen;omega
 case c4=>omega
 case c5=>exact VP _
 intro kw K6 k2 K7 r4;rw[Vv,V1]at k2;have K8:Kp no W3 K6:=((Kp.refl _ _).drew).bS K7 (λk e=>by cases e);have w2:=r3 _ K8;refine hK _ _ (K0 _ K8) (λhS=>?_);clear hK K;obtain⟨w3,w4,rfl⟩:=aA k2;refine tj 8 ?_;refine tj 9 ?_;refine ej 10 λK hK=>?_
 go_simp;refine hK _ _ ?_;clear hK K;refine dj ?_;have K9:=K8.az k0 id;have W0:=K8.az k9 id;have s8:=heap_setCell (o:=6) K9 (Q w3 c.1.length w4);have s9:=aB (o:=6) H8 (Q w3 c.1.length w4) W0;have r5:=aK k2;have ht:a<W3.heap.size:=au k0;have w5:(K6.setCell ⟨a,6,H⟩ (Q w3 c.1.length w4)).ownsRow W3.heap.size 5 1 _ c.1.length _:=((Kp.refl _ K6).bK _ _).own k2 (λb hb e=>by have:=r5 b hb;unfold one at e;omega);have W1:Kp _ W3 (K6.setCell ⟨a,6,H⟩ (Q w3 c.1.length w4)):=K8.any.bK _ _;generalize K6.setCell _ _=W2 at *;obtain⟨r6,r7⟩:=ae s8;obtain⟨r8,r9⟩:=ae s9;obtain⟨t0,t1,rfl,_⟩:=h8.aJ;have w6:aq W2 _ (dF {E with en:=j+n} kk.1 kk.2).1:=h8.kp (w0.trans W1) (λb hb e=>by have:=H7 b hb;unfold one at e;omega);clear K9 W0 k2 K7 r4 w2 hS;change Hid _ at s8 s9;replace w5:=Z w5;replace w6:=Z w6;obtain⟨t,L⟩:=bL (dF {E with en:=j+n} kk.1 kk.2);have hv:t.1.length<=32:=by
  have:=uN {E with en:=j+n} kk.1 [] kk.2;rw[L];show(eY {E with en:=j+n} kk.1 [] kk.2).1.length<=32
  simp only[Wp]at this;omega
 have W4:Hid (dR H6 a {E with en:=j+n} t.2):=Z (by rw[L];exact v0);have t2:Hid (aq W2 (Q t0 t.1.length t1) t.1):=Z (by rw[L];exact w6);rw[<-L];clear v0 w6 h8;change Hid _ at L;go_wp2_with(at_builtin;refine b7 _ U _ _ 25 U W3.heap.size 5 j1 _ 1 1 underlying25 K1 K2 K3 K4 U Vb _ _ _ U w5 _ t.1.length (cw t.1) U t2 (bV _) ?d3 ?d4 ?d5 ?_);case d3=>unfold maxLen;omega
 case d4=>omega
 case d5=>exact W1.size
 intro kx e7 F W5;have x7:Kp (λk=>W3.heap.size<=k) W2 e7:=(Kp.refl _ W2).bS W5 (λk r=> Yo (aK w5 k r));obtain⟨g,m,rfl⟩:=aA F;have hw:w1.heap.size<W3.heap.size:=au k9;have x0:=x7.az s8 Y;have W6:=x7.az s9 Y;obtain⟨t3,t4⟩:=ae x0;obtain⟨t5,t6⟩:=ae W6;clear W5 r6 r7 r8 r9;change Hid _ at x7;replace F:=Z F;change Hid _ at x0 W6;go_wp2_with fail;obtain⟨W9,P⟩:=bL ((((e7.setCell ⟨a,6,H⟩ (Q g (c.1.length+t.1.length) m)).setCell ⟨a,7,H⟩ (V O 0)).alloc (Yl #[Q h1 c.2.length h2] 25)):Yw);have hx:=(D.sA c (Vw hf)).2;have hy:=w0.size;have W7:Kp (one a) H6 W9:=by
  rw[P];exact((((w0.trans (W1.comp x7 bW (λk r h=>Y)))).bK _ _).bK _ _).alloc _
 have W8:W9.heap[a]?=M (PE.dT {E with en:=j+n,jG:= Q g (c.1.length+t.1.length) m,d:=0} i3 s5 s6):=by
  rw[P];exact ah (heap_setCell (heap_setCell x0 _) _)
 have h4:Kp _ w1 W9:=(kW.trans p2).trans W7;have x1:aq W9 _ c.2:=k7.one s2 h4;have p3:dR W9 a {E with en:=j+n,jG:= Q g _ m,d:=0} t.2:=dR.turn W4 U U W7 e8 (λq hq=>(W4.ok q hq).1) (λq e p hb=>by
  have:=h9.symm.trans hb;simp at this;obtain⟨e1,e2,e3⟩:=this;rw[W8,e2,e3,show(i3)=q from by rw[e1]])
 have w7:aq W9 (Q g (c.1.length+t.1.length) m) (c.1++t.1):=by
  have X:aq e7 (Q g (c.1.length+t.1.length) m) (c.1++t.1):=by
   have:=aw.own F;unfold aq cw at *;rw[Wb,Vn];exact this
  refine X.kp (S:=one a) ?_ (λb hb e=>by have:=aK F b hb;unfold one at e;omega);rw[P];exact(((Kp.refl _ _).bK _ _).bK _ _).alloc _
 have y0:F7 W9 a {E with en:=j+n,jG:= Q g (c.1.length+t.1.length) m,d:=0} ⟨c.1++t.1,s,x⟩ [c.2] c.2 (Q (M ⟨e7.heap.size,0,H⟩) 1 1) (Q h1 c.2.length h2):=by
  refine⟨(D.kp h4).env hm w7 (λb hb e=>cj (aK F b hb)) (by rw[Vn];omega),⟨?_,[Q h1 c.2.length h2],?_,?_⟩,?_,x1,s2,Y,Int.le_refl _,by show(0)<=16;decide,U⟩
  .intro b hb;cases hb;have:=x7.size;have:=W1.size;show e7.heap.size≠a
   omega
  .have :=aw.new ((e7.setCell ⟨a,6,H⟩ (Q g (c.1.length+t.1.length) m)).setCell ⟨a,7,H⟩ (V O 0)) (Q h1 c.2.length h2) 25;rw[<-P]at this;simpa using this
  .intro k l r;match k,r with
   |0,r=>cases r;exact⟨_,U,x1,s2⟩
  .intro l r;rw[Wv]at r;rw[r];omega
 rw[<-P];clear W8 x1 t3 t4 t5 t6;replace w7:=Z w7;change Hid _ at y0 p3 P;refine(Kh 2000 W9 a {E with en:=j+n,jG:= Q g _ m,d:=0} ⟨c.1++t.1,s,x⟩ [c.2] c.2 _ _ Yj t.2 2001 y0 p3 (Cj p3) (cj (Cj p3))).mono ?_;rintro r w8⟨ba,bl,bc,rfl,h5,w9,e0⟩;obtain⟨B,hB⟩:=bL (az ⟨c.1++t.1,s,x⟩ 2001 {E with en:=j+n,jG:= Q g (c.1.length+t.1.length) m,d:=0} [c.2] c.2 Yj [] Yj t.2);have y1:=Z hB;rw[<-hB]at h5 e0⊢;have y2:=Z w9;replace e0:=Z e0;obtain⟨C,hz,ka,kb,y3,x2,-⟩:=h5.dT;obtain⟨y4,t7⟩:=ae y3;clear hB;change Hid _ at h5 y3 x2;rw[hm]at y4;obtain⟨R,k3⟩:∃R:PS,R=if C<((j+n:Nat):Int)then cA 2 C B.2 else B.2:=⟨_,U⟩
 have hR:R=gO E s x c i:=by
  unfold gO;rw[hu.out];simp only;rw[Va Y,<-h3.out,<-L.out];have I:(az ⟨c.1++t.1,s,x⟩ 2001 {E with en:=j+n,d:=0} [c.2] c.2 Yj [] Yj t.2)=B:=by
   rw[y1.out];rw[Al.az (E':={E with en:=j+n,jG:= Q g _ m,d:=0}) (E:={E with en:=j+n,d:=0}) _ _ ⟨U,U⟩ rfl]
  rw[I,k3];have hp:=x2.out;cases G:B.2 with
  |error e=>split <;>rfl
  |ok q=>
   rw[G]at hp;have hq:(C:Int)=q:=by
    rcases hp with h|h
    .exact h
    .cases h
   have T:C=q:=Y
   subst T;simp only;by_cases hh:C<j+n
   .rw[Vi hh,Vi Y];rfl
   .rw[Va hh,Va Y]
 change Hid _ at hR;by_cases y5:C<((j+n:Nat):Int);case' pos=>
  have HF:Hid (cA 2 C B.2=R):=Z (by rw[k3,Vi y5]);clear k3;go_wp2_with fail;go_quiet(fail);go_wp2_with fail;refine(dJ (h5.keep ((Kp.refl no _).drewN _) bW) _ _ Vb).bw ?_;rintro I⟨h6,k4⟩;have T:Kp _ w8 I:=((Kp.refl _ _).drewN _).trans k4;rw[HF.out]at h6;clear k4;have y6:Hid (bn (gO E s x c i)=Yk\/B.2=R/\j+n<=C):=Z (Yo (by rw[<-hR.out,<-HF.out];exact gu _ _))
 case' neg=>
  have HF:Hid (B.2=R):=Z (by rw[k3,Va y5]);clear k3;go_wp2_with fail;go_quiet(fail);have h6:=h5.keep ((Kp.refl no _).drewN nq) bW;have T:=((Kp.refl (one a) w8).drewN nq);generalize w8.drewN nq=I at *;rw[HF.out]at h6;have y6:Hid (bn (gO E s x c i)=Yk\/B.2=R/\j+n<=C):=Z (Yp ⟨HF,Y⟩)
 all_goals
  clear HF y4 t7;obtain⟨t8,t9,u0,hh,x3,-,-⟩:=h6.dT;have e4:=D.kp (h4.trans (w9.trans T));obtain⟨hp,y7,-⟩:=e4.ny;obtain⟨kc,e5,u1,k4,x4⟩:=wT y7;obtain⟨c2,y8⟩:=x4 (f*4+2) Y;obtain⟨c3,k8⟩:=x4 (f*4+3) Y;have y9:=e4.az;clear y7 x4;change Hid _ at h6 e4 y8 k8 k4 x3 y9 e5;go_wp2_with fail;obtain⟨S,A⟩:=bL (λJ=>(∀q,J.cell? ⟨a,q,H⟩=#[ptr N,E.b,V O t8,V O ((j+n:Nat):Int),V O t9,V O u0,Q g (c.1.length+t.1.length) m,V O 0][q]?)/\(∀q,J.cell? ⟨N,q,H⟩=#[u,Q (M ⟨y,o0,H⟩) s.length s3,gv,V O bI][q]?)/\J.cell? ⟨y,o0+f*4+2,H⟩=M c2/\J.frozen? ⟨y,o0+f*4+2,H⟩=Yj:Yw->Prop);have k1:∀W,Kp no I W->S W:=λW k=>by
   rw[A];refine⟨?_,(ae (k.az y9 id)).1,?_,(ae (k.az k4 id)).2 _⟩
   .rw[<-hm];exact(ae (k.az x3 id)).1
   .rw[(ae (k.az k4 id)).1,e5.out,Vv];exact y8
  have u2:=Z A;clear A;change Hid _ at k1;refine rj 14 15 (S) ?hS λhS=>?_
  case hS=>exact k1 _ fL
  have A:=u2.out;subst A;refine tj 0 ?_;iterate 13 refine tn ?_
  refine ej 14 λK hK=>?_
  go_simp;refine hK _ _ ?_;clear hK K;refine dj ?_;have W:B7 E.b E.data≠M y:=λe=>cj (HS.low y e)
  have J:Kp _ I ((I.setCell ⟨y,o0+f*4+2,H⟩ (Q g (c.1.length+t.1.length) m)).drew):=((Kp.refl _ _).bK _ _).drew;have e6:dy ((I.setCell ⟨y,o0+f*4+2,H⟩ (Q g (c.1.length+t.1.length) m)).drew) a N base u (Q (M ⟨y,o0,H⟩) s.length s3) gv bI s x:=by
   rw[VR];exact(e4.put Y _).kp fL
  have z0:=h6.other J h7 W;have z1:=J.az x3 (λe=>h7 e.symm);have u3:Hid (((I.setCell ⟨y,o0+f*4+2,H⟩ (Q g (c.1.length+t.1.length) m)).drew).heap[y]?=M _):=heap_setCell k4 _;generalize(I.setCell _ _).drew=K at *;obtain⟨kd,z2,-⟩:=e6.ny;obtain⟨-,-,ke,h6,z3⟩:=wT z2;obtain⟨d3,z4⟩:=z3 (f*4+3) Y;obtain⟨u4,kf⟩:=ae z1;obtain⟨kg,kh⟩:=ae e6.az;have ki:K.cell? ⟨y,o0+f*4+3,H⟩=M d3:=by rw[(ae h6).1,e5.out,Vv];exact z4
  have kj:K.frozen? ⟨y,o0+f*4+3,H⟩=false:=(ae h6).2 _;have z5:=Z ((h4.trans w9).trans T);rw[hm,s0]at u4;clear z2 h6 z3 z4 w9;change Hid _ at T h4 s0;replace J:=Z J;replace x6:=Z x6;replace W:=Z W;change Hid _ at e6 z0 z1;go_wp2_with fail;first |go_end0|(refine bodyPost_ret (v:= Yu #[]) (by simp[results,results119,go_sem]) U ?_)
  have z6:=e6.put (q:=f*4+3) Y (Q ba bl bc);rw[<-VR]at z6;have I:Kp _ K (K.setCell ⟨y,o0+f*4+3,H⟩ (Q ba bl bc)):=(Kp.refl _ _).bK _ _;have x5:=z0.other I h7 W;rw[hR.out]at x5;have kE:Kp _ _ ((K.setCell ⟨y,o0+f*4+3,H⟩ (Q ba bl bc)).setCell ⟨a,3,H⟩ (V O E.data.length)):=(Kp.refl _ _).bK _ _;have z7:dR ((K.setCell ⟨y,o0+f*4+3,H⟩ (Q ba bl bc)).setCell ⟨a,3,H⟩ (V O E.data.length)) a {E with jG:= Q g (c.1.length+t.1.length) m,d:=0} (gO E s x c i):=by
   refine dR.turn x5 U U kE (by show E.en<=E.data.length;omega) (λq hq=>by have:=(x5.ok q hq).1;show q<=E.en;have z8:q<=j+n:=this;omega) (λq e p hb=>?_);have:=heap_setCell (o:=3) hb (V O E.data.length);rw[this];show M _=M (Obj.cells #[E.m,E.b,V O q,V O E.en,V O e,V O p,Q g _ m,V O 0] _)
   rw[x8];rfl
  rw[hm,x8]at z7;refine⟨U,⟨_,z7⟩,z6.kp kE,?_,?_⟩
  .refine Kp.trans ((x6.mono (λk _ h=> Yo h)).trans (z5.mono (λk _ h=> Yo h))) ?_;exact((J.mono (λk _ h=> Yp (by rw[show k=y from h];rfl))).trans (I.mono (λk _ h=> Yp (by rw[show k=y from h];rfl)))).trans (kE.mono (λk _ h=> Yo h))
  .rcases y6.out with hB|⟨HF,hq⟩
   .exact vR.bad hB
   intro p u5;have ho:o0=0:=e5;have G:B.2= Yn p:=by rw[HF,hR.out];exact u5
   obtain⟨q0,y6⟩:∃q0,t.2= Yn q0:=by
    cases k:t.2 with
    |ok q=>exact⟨q,U⟩
    |error e=>
     have X:=y1.out;rw[k,lI U]at X;rw[X]at G;cases G
   obtain⟨l,n1,n2⟩:=e0 q0 p y6 G;have u6:=rH n2 U;rw[u6]at n2;have kl:=(h0.lt y U).2;have km:=HS.lt;have ky:=x6.size;have kn:=h4.size;have ko:=y2.size;have kp:=T.size;have zS:=J.size;have kq:=I.size;have zE:=kE.size;have kz:W3.heap.size<=W2.heap.size:=W1.size;have wa:=x7.size;have kr:e7.heap.size<=W9.heap.size:=by rw[P.out];simp
   obtain⟨ks,u7,-⟩:=hM.ny;obtain⟨-,-,kt,z8,-⟩:=wT u7;have z9:=((x6.trans z5).az z8 (λe=>h7 e)).symm.trans k4;simp only[Vu,Obj.cells.injEq]at z9;have k:∀b,jA W9 w8 b->b≠a/\b≠y:=λb hb=>by unfold jA at hb;omega
   have p0:∀b,(Value.slice g _ m).ownBlock=M b->W3.heap.size<=b/\b<e7.heap.size:=λb hb=>⟨aK F b hb,(F.lt b hb).2⟩
   refine⟨y,s3,u1,Q g (c.1.length+t.1.length) m,Q ba bl bc,by rw[ho],?_,(Xy.1 k8).1,?_,t.1,l,?_,?_,?_,⟨n,j,q0,{E with en:=j+n,jG:= Q g _ m,d:=0},hu,e8,?_,U,U,U,n2,?_⟩⟩
   .rw[<-z9.1];exact z8
   .have :=kE.az (heap_setCell u3 _) (λe=>h7 e);simp only[ho,Vv]at this⊢;exact this
   .refine((((w7.kp y2 (λb hb e=>?_)).kp T (λb hb e=>?_)).kp J (λb hb e=>?_)).kp I (λb hb e=>?_)).kp kE (λb hb e=>?_);all_goals
     have:=p0 b hb;unfold one at e;omega
   .intro b hb;have:=p0 b hb;unfold jA;omega
   .refine(((n1.kp T (λb hb e=>(k b hb).1 e) (λ_ h=>h)).kp J (λb hb e=>(k b hb).2 e) (λ_ h=>h)).kp I (λb hb e=>(k b hb).2 e) (λ_ h=>h)).kp kE (λb hb e=>(k b hb).1 e) (λb hb=>?_);unfold jA at hb⊢;omega
   .rw[<-h3.out,<-L.out,<-y6]
   .have X:=(h5.ok p G).1;have q4:p<=j+n:=X;rcases x2.out with h|h
    .rw[G]at h;have p1:(C:Int)=p:=h;omega
    .rw[G]at h;cases h
end
end Rf
section
open Go.RowKit
def xg{l:List Bk}{b:Bk}(k:Nat):(l++[b]).getD k lO=if k=l.length then b else l.getD k lO:=by
 grind
def GU{l:List Bk}{b:Bk}(c:a<l.length)(k:Nat):(l.set a b).getD k lO=if k=a then b else l.getD k lO:=by
 grind
structure Fin(s:Bd)(C:List dQ)(tg ti:Nat->Nat):Prop where
 le:iH s.ao C
 goal:∀j,j<s.ao.length->(∀k,j∉(s.bk k).waits/\((s.bk k).bq=3->j+1≠(s.bk k).start))->(C.getD j bD).goal=(s.ao.getD j bD).goal
 abi:∀k j,j∈(s.bk k).waits->(C.getD j bD).goal=tg k
 cond:∀k,(s.bk k).bq=3->(C.getD ((s.bk k).start-1) bD).goal=ti k
structure Wf(s:Bd):Prop where
 lt:∀k j,j∈(s.bk k).waits->j<s.ao.length/\(s.ao.getD j bD).op≠4
 UU:∀k k' j,j∈(s.bk k).waits->j∈(s.bk k').waits->k=k'
 cond:∀k,(s.bk k).bq=3->0<(s.bk k).start/\(s.bk k).start<=s.ao.length/\(s.ao.getD ((s.bk k).start-1) bD).op=4
 Ev:∀k k',(s.bk k).bq=3->(s.bk k').bq=3->(s.bk k).start=(s.bk k').start->k=k'
 loop:∀k,(s.bk k).bq=2->(s.bk k).waits=[]
theorem xW{a b:dQ}(c:a.op=b.op)(d:a.num=b.num)(e:a.goal=b.goal)(f:a.aH=b.aH)(g:a.keep=b.keep):a=b:=by
 grind[cases dQ]
section
variable{s s':Bd}{C:List dQ}{tg ti:Nat->Nat}{x:dQ}
def Fin.same(h:Fin s C tg ti)(a:s'.ao=s.ao)(b:s'.af=s.af):Fin s' C tg ti:=by
 have c:∀k,s'.bk k=s.bk k:=λk=>by grind[Bd.bk]
 exact⟨by grind[le],by grind[goal],by grind[abi],by grind[cond]⟩
def Wf.same(h:Wf s)(a:s'.ao=s.ao)(b:s'.af=s.af):Wf s':=by
 have c:∀k,s'.bk k=s.bk k:=λk=>by grind[Bd.bk]
 exact⟨by grind[lt],by grind[UU],by grind[cond],by grind[Ev],by grind[loop]⟩
theorem Wf.new(h:Wf s)(k:Nat):s.ao.length∉(s.bk k).waits/\((s.bk k).bq=3->s.ao.length+1≠(s.bk k).start):=
 ⟨λe=>cj ((h.lt k _ e).1),λe a=>by grind[cond]⟩
theorem Wf.Ew(h:Wf s)(b:s'.ao=s.ao++[x])(c:s'.af=s.af):Wf s':=by
 have d:∀k,s'.bk k=s.bk k:=λk=>by grind[Bd.bk]
 refine⟨λk j a=>?_,by grind[UU],λk a=>?_,by grind[Ev],by grind[loop]⟩
 .grind[lt]
 grind[cond]
theorem Fin.Ew(l:Wf s)(h:Fin s' C tg ti)(e:s'.ao=s.ao++[x])(n:s'.af=s.af):Fin s C tg ti/\s.ao.length<C.length/\C.getD s.ao.length bD=x:=by
 have f:∀k,s'.bk k=s.bk k:=λk=>by grind[Bd.bk]
 obtain⟨a,g,c,d⟩:=h;simp only[f]at g c d;have k:s'.ao.length=s.ao.length+1:=by rw[e];simp
 have i:∀j,j<s.ao.length->s'.ao.getD j bD=s.ao.getD j bD:=λj b=>Ve
 have p:s'.ao.getD s.ao.length bD=x:=Ve
 refine⟨⟨⟨cj a.1,λj b=>by rw[<-i j b];exact a.2 j Y⟩,λj b r=>Ve,c,d⟩,cj a.1,?_⟩;have e1:=a.2 s.ao.length Y;grind[xW,Wf.new]
theorem qF{op:UInt8}(c:a<s.af.length):((s.bk a).bq=2/\(bu s op a).ao=s.ao++[⟨op,0,(s.bk a).start,(s.bk a).aH,(aO (s.bk a)).length⟩]/\(bu s op a).af=s.af)\/
  ((s.bk a).bq≠2/\(bu s op a).ao=s.ao++[⟨op,0,0,(s.bk a).aH,(aO (s.bk a)).length⟩]/\(bu s op a).af.length=s.af.length/\ ∀b,((bu s op a).bk b).bq=(s.bk b).bq/\((bu s op a).bk b).start=(s.bk b).start/\ ∀j,j∈((bu s op a).bk b).waits↔j∈(s.bk b).waits\/(b=a/\j=s.ao.length)):=by
 unfold bu;split
 .rename_i h;exact Yo ⟨h,U,U⟩
 .rename_i h;refine Yp ⟨h,U,by simp[bo],λb=>?_⟩;have e:(bo {s with af:=s.af.set a {s.bk a with waits:=(s.bk a).waits++[s.ao.length]}} ⟨op,0,0,(s.bk a).aH,(aO (s.bk a)).length⟩).bk b=if b=a then {s.bk a with waits:=(s.bk a).waits++[s.ao.length]}else s.bk b:=GU c b
  grind
theorem Wf.nK(h:Wf s){op:UInt8}(k:a<s.af.length)(o:op≠4):Wf (bu s op a):=by
 rcases qF (op:=op) k with⟨-,l,b⟩|⟨m,l,-,b⟩
 .grind[Ew]
 generalize bu s op a=s' at *;refine⟨λd j e=>?_,λi f j g c=>?_,λd n=>?_,λi f g c n=>?_,λd c=>?_⟩
 .rcases((b d).2.2 j).1 e with e|⟨rfl,rfl⟩<;>grind[lt]
 .rcases((b i).2.2 j).1 g with g|⟨rfl,rfl⟩
  .rcases((b f).2.2 j).1 c with c|⟨rfl,rfl⟩
   .grind[UU]
   grind[new]
  .rcases((b f).2.2 _).1 c with c|⟨rfl,-⟩<;>grind[new]
 .grind[cond]
 .grind[Ev]
 .rw[(b d).1]at c;refine Xq.2 λj e=>?_
  rcases((b d).2.2 j).1 e with e|⟨rfl,-⟩<;>grind[loop]
theorem Fin.nK(n:Wf s){op:UInt8}(i:a<s.af.length)(h:Fin (bu s op a) C tg ti):Fin s C tg ti/\s.ao.length<C.length/\C.getD s.ao.length bD=⟨op,0,if (s.bk a).bq=2 then (s.bk a).start else tg a,(s.bk a).aH,(aO (s.bk a)).length⟩:=by
 rcases qF (op:=op) i with⟨d,g,e⟩|⟨d,g,-,e⟩
 .rw[Vi d];grind[Fin.Ew]
 rw[Va d];generalize bu s op a=s' at *;obtain⟨c,f2,f3,f4⟩:=h;have p:s'.ao.length=s.ao.length+1:=by rw[g];simp
 have k:∀j,j<s.ao.length->s'.ao.getD j bD=s.ao.getD j bD:=λj b=>Ve
 have l:s'.ao.getD s.ao.length bD=⟨op,0,0,(s.bk a).aH,(aO (s.bk a)).length⟩:=Ve
 refine⟨⟨⟨cj c.1,λj b=>by rw[<-k j b];exact c.2 j Y⟩,λj b r=>?_,λf j b=>f3 f j (((e f).2.2 j).2 (Yo b)),λf j=>?_⟩,cj c.1,?_⟩
 .grind
 .grind
 .have e1:=c.2 s.ao.length Y;have e2:=f3 a s.ao.length (((e a).2.2 _).2 (Yp ⟨U,U⟩));rw[l]at e1;exact xW e1.1 e1.2.1 e2 e1.2.2.1 e1.2.2.2
def Wf.xX:∀(l:List Nat) {s:Bd},Wf s->(∀k∈l,k<s.af.length)->Wf (cx l s)
 |[],_,h,_=>h
 |k::l,s,h,b=>Wf.xX l (h.nK (b k Wy) Vb) (λc a=>by
   have:=b c (WJ _ a);have e:=Vy List.length (jh s 12 k).1;grind)
def Fin.xX:∀(l:List Nat) {s:Bd},Wf s->(∀k∈l,k<s.af.length)->Fin (cx l s) C tg ti->Fin s C tg ti/\ ∀j k,l[j]?=M k->s.ao.length+j<C.length/\C.getD (s.ao.length+j) bD=⟨12,0,if (s.bk k).bq=2 then (s.bk k).start else tg k,(s.bk k).aH,(aO (s.bk k)).length⟩
 |[],_,_,_,h=>⟨h,λj k e=>by simp at e⟩
 |k::l,s,g,i,h=>by
  have a:=i k Wy;have c:=jh s 12 k;have e:=Vy List.length c.1;simp only[VH]at e;obtain⟨n,p⟩:=Fin.xX l (s:=bu s 12 k) (g.nK a Vb) (λb d=>Ve) h;obtain⟨r,y,z⟩:=Fin.nK g a n;refine⟨r,λj b d=>?_⟩;match j with
  |0=>grind
  |j+1=>
   have d:l[j]?=M b:=Ve
   have f:(bu s 12 k).ao.length=s.ao.length+1:=by
    grind[qF]
   obtain⟨t,u⟩:=p j b d;rw[f]at t u;have A:core ((bu s 12 k).bk b)=core (s.bk b):=by grind[xf]
   grind[qF,Bd.bk,fQ,oq]
def Wf.Ex(h:Wf s){b:Bk}(l:s'.ao=s.ao++[x])(n:s'.af=s.af++[b])(p:b.waits=[])(d:b.start=s.ao.length+1)(r:b.bq=3->x.op=4):Wf s':=by
 have i:∀k,s'.bk k=if k=s.af.length then b else s.bk k:=λk=>by grind[Bd.bk]
 have f:∀k j,j∈(s'.bk k).waits->j∈(s.bk k).waits:=λk j c=>by
  grind
 refine⟨λk j c=>?_,λk a j c g=>h.UU k a j (f _ _ c) (f _ _ g),λk e=>?_,λk a e j g=>?_,λk e=>?_⟩
 .grind[lt]
 .rw[i]at e⊢;split at e
  .grind
  .rename_i c;rw[Va c];grind[cond]
 .rw[i]at e g;rw[i]at j g;split at e
  .rename_i c;split at j
   .omega
   .rename_i a;rw[Vi c,Va a,d]at g;grind[cond]
  .rename_i c;split at j
   .rename_i a;rw[Va c,Vi a,d]at g;grind[cond]
   .rename_i a;rw[Va c,Va a]at g;grind[Ev]
 .rw[i]at e⊢;split at e
  .grind
  .rename_i c;rw[Va c];grind[loop]
def Fin.Ex(f:Wf s){b:Bk}(h:Fin s' C tg ti)(g:s'.ao=s.ao++[x])(u:s'.af=s.af++[b])(y:b.waits=[])(i:b.start=s.ao.length+1)(l:(s.bk s.af.length).waits=[]/\(s.bk s.af.length).bq=0):
  Fin s C tg ti/\s.ao.length<C.length/\C.getD s.ao.length bD={x with goal:=if b.bq=3 then ti s.af.length else x.goal}:=by
 have n:∀k,s'.bk k=if k=s.af.length then b else s.bk k:=λk=>by grind[Bd.bk]
 have a:∀k j,j∈(s'.bk k).waits↔j∈(s.bk k).waits:=λk j=>by
  grind
 obtain⟨d,f2,f3,f4⟩:=h;have z:s'.ao.length=s.ao.length+1:=by rw[g];simp
 have p:∀j,j<s.ao.length->s'.ao.getD j bD=s.ao.getD j bD:=λj c=>Ve
 have r:s'.ao.getD s.ao.length bD=x:=Ve
 refine⟨⟨⟨cj d.1,λj c=>by rw[<-p j c];exact d.2 j Y⟩,λj c e=>?_,λk j c=>f3 k j ((a k j).2 c),λk t=>?_⟩,cj d.1,?_⟩
 .grind
 .grind
 .have e1:=d.2 s.ao.length Y;rw[r]at e1;refine xW e1.1 e1.2.1 ?_ e1.2.2.1 e1.2.2.2;by_cases t:b.bq=3
  .grind
  .have :=f2 s.ao.length Y λk=>⟨λe=>(f.new k).1 ((a k _).1 e),λe=>by
    rw[n]at e⊢;split at e
    .omega
    .rename_i c;rw[Va c];grind[Wf.new]⟩
   grind
theorem oy(s:Bd)(h:s.af.length<=a):s.bk a=lO:=by
 grind[Bd.bk]
end
def mS(t:Nat->Nat)(k g:Nat):Nat->Nat:=λj=>if j=k then g else t j
section
variable{s s':Bd}{C:List dQ}{tg ti:Nat->Nat}
def xY(f:s.top.bq≠0)(h:kQ s= Yn s')(g:s.top.bq=3->0<s.top.start):s'.ao.length=s.ao.length/\iH s.ao s'.ao/\s'.af=s.af.take (s.af.length-1)/\
  ∀q,q<s.ao.length->(s'.ao.getD q bD).goal=if q∈s.top.waits\/(s.top.bq=3/\q+1=s.top.start)then s.ao.length else (s.ao.getD q bD).goal:=by
 unfold kQ at h;split at h
 .cases h
 simp only[Va f]at h;cases h;by_cases a:s.top.bq=3
 .simp only[Vi a];have b:=xe s (s.top.start-1);obtain⟨c,-,a3,-,-,-,d,e⟩:=qu s.top.waits (dZ s (s.top.start-1));refine⟨c.trans b,(iH.UG s _).trans d,by rw[a3];rfl,λq i=>?_⟩;rw[e q Y,Cp s _ i,b];grind
 .simp only[Va a];obtain⟨c,-,a3,-,-,-,d,e⟩:=qu s.top.waits s;grind
def CD(a:s'.af=s.af.take (s.af.length-1))(k:Nat):s'.bk k=if k<s.af.length-1 then s.bk k else lO:=by
 grind[Bd.bk]
def Wf.OX(h:Wf s)(i:s'.ao.length=s.ao.length)(b:iH s.ao s'.ao)(p:s'.af=s.af.take (s.af.length-1)):Wf s':=by
 have f:=CD p;have g:∀k j,j∈(s'.bk k).waits->j∈(s.bk k).waits:=λk j a=>by
  rw[f]at a;split at a
  .exact a
  .cases a
 have c:∀k,(s'.bk k).bq=3->(s.bk k).bq=3/\s'.bk k=s.bk k:=λk e=>by
  rw[f]at e⊢;split at e
  .grind
  .cases e
 refine⟨λk j a=>?_,λk d j l n=>h.UU k d j (g _ _ l) (g _ _ n),λk e=>?_,λk d e l n=>?_,λk e=>?_⟩
 .have :=h.lt k j (g _ _ a);rw[(b.2 j this.1).1,i];exact this
 .obtain⟨e1,e2⟩:=c k e;have:=h.cond k e1;rw[e2,(b.2 _ Y).1,i];exact this
 .rw[(c k e).2,(c d l).2]at n;exact h.Ev k d (c k e).1 (c d l).1 n
 .rw[f]at e⊢;split at e
  .rename_i a;rw[Vi a];exact h.loop k e
  .rename_i a;rw[Va a];rfl
def Fin.OX(c:Wf s)(n:s.af≠[])(r:s.top.bq≠0)(t:kQ s=.ok s')(h:Fin s' C tg ti):Fin s C (mS tg (s.af.length-1) s.ao.length) (mS ti (s.af.length-1) s.ao.length):=by
 obtain⟨B,p,u,D⟩:=xY r t (λe=>(c.cond _ e).1);have x:=CD u;have E:=Vs.2 n;have y:s.bk (s.af.length-1)=s.top:=rfl;obtain⟨z,f2,f3,f4⟩:=h
 --a place that waits for nothing else
 have g:∀j,j<s.ao.length->(∀k,k≠s.af.length-1->j∉(s.bk k).waits/\((s.bk k).bq=3->j+1≠(s.bk k).start))->(C.getD j bD).goal=if j∈s.top.waits\/(s.top.bq=3/\j+1=s.top.start)then s.ao.length else (s.ao.getD j bD).goal:=λj d b=>by
  grind[lO]
 refine⟨p.trans z,λj d b=>?_,λk j d=>?_,λk i=>?_⟩
 .grind
 .unfold mS;by_cases b:k=s.af.length-1
  .rw[Vi b];subst b;have l:=c.lt _ j d;rw[g j l.1 λk f=>⟨λe=>f (c.UU _ _ _ e d),λe A=>l.2 (by have:=(c.cond k e).2.2;grind)⟩,Vi (.inl d)]
  .rw[Va b];have j:k<s.af.length-1:=by
    rcases VE k (s.af.length-1)with e|e
    .exact e
    .rw[oy s Y]at d;cases d
   grind
 .unfold mS;by_cases b:k=s.af.length-1
  .rw[Vi b];subst b;obtain⟨c1,c2,c3⟩:=c.cond _ i;rw[g _ Y λk f=>⟨λe=>(c.lt _ _ e).2 c3,λe A=>f (c.Ev _ _ e i Y)⟩,Vi (.inr ⟨i,Ve⟩)]
  .rw[Va b];have j:k<s.af.length-1:=by
    rcases VE k (s.af.length-1)with e|e
    .exact e
    .rw[oy s Y]at i;cases i
   grind
def KZ(J:Wf s)(B:s.af≠[])(L:s.top.bq=3)(p:iC s= Yn s'):Wf s'/\s'.ao.length=s.ao.length+1/\ ∀{C:List dQ} {tg ti:Nat->Nat},Fin s' C tg ti->
  Fin s C tg (mS ti (s.af.length-1) (s.ao.length+1))/\s.ao.length<C.length/\C.getD s.ao.length bD=⟨5,0,tg (s.af.length-1),s.top.aH,(aO s.top).length⟩:=by
 have S:=Vs.2 B;have f:s.af.length-1<s.af.length:=Y
 have a:Wf (bu s 5 (s.af.length-1)):=J.nK f Vb;have D:(s.bk (s.af.length-1)).bq≠2:=by show s.top.bq≠2;omega
 rcases qF (s:=s) (op:=5) f with⟨e,-⟩|⟨-,N,E,r⟩
 .omega
 unfold iC at p;split at p
 .cases p
 have F:=λ{C:List dQ} {tg ti:Nat->Nat} (h:Fin (bu s 5 (s.af.length-1)) C tg ti)=>Fin.nK J f h
 generalize bu s 5 (s.af.length-1)=sj at *;have t:sj.ao.length=s.ao.length+1:=Ve
 have d:(sj.bk (s.af.length-1))=sj.top:=by grind[Bd.top]
 have g:sj.top.start=s.top.start/\sj.top.bq=3:=by rw[<-d];exact⟨(r _).2.1,by rw[(r _).1];exact L⟩
 simp only at p;cases p;obtain⟨c1,c2,c3⟩:=a.cond _ (by rw[d];exact g.2);rw[d,g.1]at c1 c2 c3;have u:=xe sj (s.top.start-1);have x:=iH.UG sj (s.top.start-1);have y:=λq (b:q<sj.ao.length)=>Cp sj (s.top.start-1) b
 --the af bM it
 have R:∀k,(Bd.bk {dZ sj (s.top.start-1)with af:=(dZ sj (s.top.start-1)).af.set ((dZ sj (s.top.start-1)).af.length-1) {(dZ sj (s.top.start-1)).top with bq:=4},stack:=(dZ sj (s.top.start-1)).stack.take (dZ sj (s.top.start-1)).top.aH,aR:=Yj} k)=if k=s.af.length-1 then {sj.top with bq:=4}else sj.bk k:=λk=>by
  show(sj.af.set (sj.af.length-1) {sj.top with bq:=4}).getD k lO=_
  rw[E,GU Y];rfl
 generalize G:({dZ sj (s.top.start-1)with af:=(dZ sj (s.top.start-1)).af.set ((dZ sj (s.top.start-1)).af.length-1) {(dZ sj (s.top.start-1)).top with bq:=4},stack:=(dZ sj (s.top.start-1)).stack.take (dZ sj (s.top.start-1)).top.aH,aR:=Yj}:Bd)=A at *;have I:A.ao=(dZ sj (s.top.start-1)).ao:=by rw[<-G]
 rw[<-I]at u x y;have b:∀k j,j∈(A.bk k).waits↔j∈(sj.bk k).waits:=λk j=>by
  grind
 have c:∀k,(A.bk k).bq=3↔(k≠s.af.length-1/\(sj.bk k).bq=3):=λk=>by
  grind
 have i:∀k,(A.bk k).start=(sj.bk k).start:=λk=>by
  grind
 refine⟨⟨λk j l=>?_,λk z j n K=>a.UU k z j ((b _ _).1 n) ((b _ _).1 K),λk e=>?_,λk z e n K=>?_,λk e=>?_⟩,by rw[u,t],λ{C tg ti} h=>?_⟩
 .have :=a.lt k j ((b k j).1 l);grind
 .have :=a.cond k ((c k).1 e).2;grind
 .rw[i,i]at K;exact a.Ev k z ((c k).1 e).2 ((c z).1 n).2 K
 .rw[R]at e;refine Xq.2 λj l=>?_
  split at e
  .cases e
  .have z:=(b k j).1 l;rw[a.loop k e]at z;cases z
 .obtain⟨z,f2,f3,f4⟩:=h;have hF:Fin sj C tg (mS ti (s.af.length-1) (s.ao.length+1)):=by
   refine⟨x.trans z,λj l h=>?_,λk j l=>f3 k j ((b k j).2 l),λk e=>?_⟩
   .grind
   .unfold mS;by_cases h:k=s.af.length-1
    .rw[Vi h];subst h;rw[d,g.1];rw[f2 (s.top.start-1) Y λk=>⟨λn=>(a.lt _ _ ((b _ _).1 n)).2 c3,λn j=>by
      rw[i]at j;exact((c k).1 n).1 (a.Ev _ _ ((c k).1 n).2 e Ve)⟩,y _ Y,Vi U]
     exact t
    grind
  obtain⟨h,g2,g3⟩:=F hF;refine⟨h,g2,?_⟩;rw[g3,Va D];rfl
end
structure Lq(s:Bd)(L:List uL):Prop where
 len:L.length=s.af.length
 ok:∀k lb,L[k]?=M lb->lb.bt.length=(s.bk k).aH/\lb.vt=aO (s.bk k)/\((s.bk k).bq=2->lb.goal=(s.bk k).start)
def yN(L:List uL):Nat->Nat:=λk=>(L.getD k ⟨0,[],[]⟩).goal
def pL(L:List uL)(b:uL)(k:Nat):yN (L++[b]) k=if k=L.length then b.goal else yN L k:=by
 unfold yN;grind
theorem UW{L:List uL}{b:uL}(h:L[a]?=M b):yN L a=b.goal:=by
 grind[yN]
def Fin.Ey{C:List dQ}{d e a b:Nat->Nat}(h:Fin J C d e)(i:∀k,k<J.af.length->(J.bk k).waits=[]\/d k=a k)(l:∀k,k<J.af.length->e k=b k):Fin J C a b:=by
 refine⟨h.le,h.goal,λk j f=>?_,λk g=>?_⟩
 .rcases VE k J.af.length with c|c
  .grind[abi]
  .rw[oy J c]at f;cases f
 .rcases VE k J.af.length with c|c
  .grind[cond]
  .rw[oy J c]at g;cases g
theorem tD(h:K.af.map core=J.af.map core)(k:Nat):(K.bk k).bq=(J.bk k).bq/\(K.bk k).aH=(J.bk k).aH/\aO (K.bk k)=aO (J.bk k)/\(K.bk k).aL=(J.bk k).aL:=by
 grind[xf,fQ,oq]
theorem Lq.move{L:List uL}(h:Lq J L)(a:K.af.map core=J.af.map core)(c:∀k,(K.bk k).start=(J.bk k).start):Lq K L:=by
 have b:K.af.length=J.af.length:=by have:=Vy List.length a;grind
 refine⟨h.len.trans b.symm,λk d e=>?_⟩;grind[tD,ok]
def Lq.push{s2:Bd}{L:List uL}{b:Bk}{a:uL}(h:Lq J L)(g:s2.af=J.af++[b])(i:a.bt.length=b.aH)(j:a.vt=aO b)(l:b.bq=2->a.goal=b.start):Lq s2 (L++[a]):=by
 have d:∀k,s2.bk k=if k=J.af.length then b else J.bk k:=λk=>by grind[Bd.bk]
 refine⟨by grind[len],λk c e=>?_⟩;rw[d];rcases VE k L.length with c|c
 .rw[VC c]at e;rw[Va (by grind[len])];grind[ok]
 .rw[VQ c]at e;have f:k-L.length=0:=by
   grind
  rw[f]at e;cases e;rw[Vi (by grind[len])];grind
def abj(G:Rf.ez)(c:nt)(s:Bd)(base stack aL:List UInt8)(l:List Nd)(e:Bool)(q:Nat):Prop:=
 ∃n s1 x,n+s.i<=s1.i/\fA c n s s1/\fc c.D s1.i= Yn (x,q)/\(x=5\/x=11)/\e=decide (x=5)/\s1.af.map core=s.af.map core/\(∀k,(s1.bk k).start=(s.bk k).start)/\Wf s1/\(∃QY,s1.stack=base++QY/\(s1.aR=Yk\/QY=aL))/\
  ∀C L ti,Lq s L->Fin s1 C (yN L) ti->Fin s C (yN L) ti/\Lay C G L aL base stack s.aR s.ao.length l s1.ao.length
def uO{E:Rf.PE}{G:Rf.ez}{c:nt}(A:Ag E G c){x:UInt8}(hi:a<=E.en)(h:Rf.b8 E (Yn a)=(x,Yn N)):fc c.D a= Yn (x,N)/\N=a+1/\a<E.en:=by
 cases b:fc c.D a with
 |error e=>
  rw[qw A.en hi,<-A.D,b]at h;have:(Except.error e:Rf.PS)= Yn N:=Vy Prod.snd h;cases this
 |ok p=>
  obtain⟨f,g⟩:=p;rw[qw A.en hi,<-A.D,b]at h;have d:=Vy Prod.fst h;have e:=Vy Prod.snd h;cases e;subst d;obtain⟨e1,e2⟩:=j7 b;rw[A.D,ja A.en]at e2;exact⟨U,e1,e2⟩
def Em.same{op:UInt8}{s:Bd}{y:Rf.IR}(h:Em op J y K)(c:J.af=s.af)(j:J.ao=s.ao):Em op s y K:=by
 have p:∀k,J.bk k=s.bk k:=λk=>by grind[Bd.bk]
 unfold Em at h⊢;rcases h with⟨a,b,d,e,f,g⟩|⟨k,a,b,d,e,f,g,i⟩|⟨a,l,n,b,d,e,f,g,i⟩
 .grind
 .grind[pH]
 .have r:=vP l (s:=bo s ⟨14,n,0,0,0⟩) (s':=bo J ⟨14,n,0,0,0⟩) c (by show J.ao++_=s.ao++_;rw[j]);exact Yp (Yp ⟨a,l,n,b,λk h=>Ve,Ve,f,Ve,Ve⟩)
def Ez{C:List dQ}{G:Rf.ez}{L:List uL}{base stack:List UInt8}{l:List Nd}(h:Lay C G L D base stack Yk a l N):l=[]/\N=a:=by
 cases h;simp
section
variable{E:Rf.PE}{G:Rf.ez}{c:nt}{s:Bd}{ag:List (List UInt8)}{base stack:List UInt8}
def La(A:Ag E G c)(R:Rl E s ag base stack)(k:s.aR=Yj){x:UInt8}{y:Rf.IR}(h:Rf.b8 E (Yn s.i)=(x,Yn N))(t:x≠5/\x≠11)(l:x≠2/\x≠3/\x≠4)(w:Rf.fO x=Yk)
  (z:Rf.aX E G ag stack x.toNat (Yn N)=(y,Yn o))(B:y.ok=Yk)(C:stack=D++y.take):
  ∃d,dK c s= Yn d/\s.i<d.i/\d.i=o/\d.aR=decide (x=0\/x=12\/x=14\/x=15)/\d.af.map core=s.af.map core/\Rl E d ag base (D++y.put)/\Em x s y d:=by
 obtain⟨m,X,F⟩:=uO A R.i h;obtain⟨r,u⟩:=(ou x).1 w;have I:Rl E {s with pos:=s.i,i:=N} ag base stack:=⟨Ve,R.lab,R.ne,R.st,R.hb⟩;have n:=ow m u Ve;have f:=Jh A I k u l.1 l.2.1 l.2.2 t.1 t.2;rw[<-n]at f;have g:=Rf.qo (E:=E) (G:=G) (ag:=ag) (stack:=stack) (op:=x.toNat) (σ:= Yn N) (λi hi=>Ve);change ek x _ base stack (dK c s) (Rf.aX E G ag stack x.toNat (Yn N)) _ at f;rw[z]at f g;have J:=sD.2 C;cases j:dK c s with
 |error e=>
  rw[j]at f;have a:(if y.ok=Yj\/(Rf.gp stack y.take).2=Yj then Rf.cA 3 (s.i:Int) (Except.ok o)else Except.ok o)=(Ym e:Rf.PS):=f;grind
 |ok d=>
  rw[j]at f;obtain⟨-,-,K,L,p,v,P⟩:=f;have q:=K;cases q;have e:d.i<=E.en/\s.i<d.i:=by
   rcases g with h|⟨a,b,ha,S,T,W⟩
   .cases h
   grind
  have b:=fQ (kL (s:=s) p);have a:d.af.length=s.af.length:=by have:=Vy List.length p;grind
  rw[J.2]at v;exact⟨d,U,e.2,U,L,p,⟨e.1,by grind[jg,Rl.lab],by grind[Rl.ne],v,by grind[Rl.hb]⟩,P.same U U⟩
def AE(A:Ag E G c)(R:Rl E s ag base stack)(k:s.aR=Yj)(C:E.d=(s.af.length:Int)-1){x t:UInt8}(h:Rf.b8 E (Yn s.i)=(x,Yn N))(m:x=2\/x=3\/x=4)
  (v:Rf.cB E 64 127 126 (Yn N)=(t,Yn o))(F:stack=D++(if x=4 then [127]else []))(z:E.d≠16):
  ∃e,dK c s= Yn e/\s.i<e.i/\e.i=o/\e.aR=Yj/\e.stack=base++D/\e.ao=s.ao++[⟨x,0,0,if x=4 then (base++D).length else 0,0⟩]/\e.af=s.af++[⟨if x=3 then 2 else if x=4 then 3 else 1,rs t,(base++D).length,s.ao.length+1,[]⟩]/\
   Rl {E with d:=E.d+1} e (ag++[if x=3 then []else rs t]) (base++D) []:=by
 obtain⟨n,I,B⟩:=uO A R.i h;obtain⟨r,w⟩:∃r,eu x=M r/\r.bM=4:=by rcases m with rfl |rfl |rfl <;>exact⟨_,U,U⟩
 have p:=ow n w.1 Ve;have f:dK c s=lQ c x {s with pos:=s.i,i:=N}:=by
  rw[p,Vi w.2];rcases m with rfl |rfl |rfl <;>rfl
 have g:=qB A.en (i:=N) (a:=64) (b:=127) (c:=126) (al:=[127,126,64]) Ve Y;rw[<-A.D,v]at g;have j:o<=E.en/\s.i<o:=by
  have:=Rf.DK (E:=E) (a:=64) (b:=127) (c:=126) (σ:= Yn N);rw[v]at this;rcases this with h|⟨a,b,y,e,q,u⟩
  .cases h
  grind
 unfold lQ at f;cases u:bP c.D [127,126,64] N with
 |error e=>
  have:(Except.ok o:Rf.PS)= Ym e:=g.err u;cases this
 |ok q=>
  obtain⟨J,K⟩:=q;have y:=g.ok u;have e1:=Vy Prod.fst y;have e2:=Vy Prod.snd y;cases e2;subst e1;simp only[u]at f;have e:(if x=4 then cO {s with pos:=s.i,i:=o} 127 else M {s with pos:=s.i,i:=o})=bQ {s with pos:=s.i,i:=o} (if x=4 then [127]else []):=by
   split
   .grind[lT]
   .rfl
  rw[e,xS (l:=base++D) (by grind[Rl.st]) (by show s.top.aH<=_;grind[Rl.hb])]at f;simp only at f;rw[Va Y]at f;refine⟨_,f,j.2,U,k,U,U,U,⟨j.1,?_,Vc,by simp[bo],?_⟩⟩
  .rw[Wb,R.lab];congr 1;rcases m with rfl |rfl |rfl <;>rfl
  .rw[Es _ _ _ U]
def OY(x t:UInt8)(a:x=2\/x=3\/x=4)(h b:Nat):aO ⟨if x=3 then 2 else if x=4 then 3 else 1,rs t,h,b,[]⟩=if x=3 then []else rs t:=by
 rcases a with rfl |rfl |rfl <;>rfl
def oz{c:nt}{d:Bd}(h:fA c N J K)(a:K.af≠[])(b:dK c K= Yn d):fA c (N+1) J d:=ry N 1 J K d h ⟨a,d,b,U⟩
def rP{c:nt}{d:Bd}(a:J.af≠[])(b:dK c J= Yn K)(h:fA c N K d):fA c (1+N) J d:=ry 1 N J K d ⟨a,K,b,U⟩ h
def xZ(A:Ag E G c)(R:Rl E s ag base stack)(g:fc c.D s.i= Yn (11,a))(j: ¬(s.top.bq=3/\s.top.aL≠[]))(p:s.aR=Yk\/stack=s.top.aL):
  ∃b,dK c s= Yn b/\kQ {s with pos:=s.i,i:=a}= Yn b/\b.i=a/\a<=E.en/\b.aR=Yj/\b.stack=base++s.top.aL/\b.af.map core=s.af.dropLast.map core:=by
 obtain⟨q,e⟩:=j7 g;rw[A.D,ja A.en]at e;have k:Rl E {s with pos:=s.i,i:=a} ag base stack:=⟨Ve,R.lab,R.ne,R.st,R.hb⟩;have d:=ow g (rfl) Vc;rw[Vi U]at d;have f:dK c s=kQ {s with pos:=s.i,i:=a}:=d;obtain⟨b,h,l,m,n,o⟩:=OQ k j (by show(s.aR||(stack==s.top.aL))=Yk;grind);exact⟨b,by rw[f,h],h,l,Y,m,n,o⟩
def Lc(A:Ag E G c)(R:Rl E s ag base stack)(g:fc c.D s.i= Yn (5,a))(j:s.top.bq=3)(p:s.aR=Yk\/stack=s.top.aL):
  ∃b,dK c s= Yn b/\iC {s with pos:=s.i,i:=a}= Yn b/\b.i=a/\a<=E.en/\b.aR=Yj/\b.stack=base/\b.af.map core=s.af.dropLast.map core++[core {s.top with bq:=4}]:=by
 obtain⟨q,e⟩:=j7 g;rw[A.D,ja A.en]at e;have k:Rl E {s with pos:=s.i,i:=a} ag base stack:=⟨Ve,R.lab,R.ne,R.st,R.hb⟩;have d:=ow g (rfl) Vc;rw[Vi U]at d;have f:dK c s=iC {s with pos:=s.i,i:=a}:=d;obtain⟨b,h,l,m,n,o⟩:=Ji k j (by show(s.aR||(stack==s.top.aL))=Yk;grind);exact⟨b,by rw[f,h],h,l,Y,m,n,o⟩
end
def EA(s:Bd)(a:UInt8)(k:Nat):(bu s a k).ao.length=s.ao.length+1:=by
 grind[bu,bo]
theorem AF:∀(l:List Nat) (s:Bd),(cx l s).ao.length=s.ao.length+l.length
 |[],_=>rfl
 |k::l,s=>by
  show(cx l (bu s 12 k)).ao.length=_
  rw[AF l,EA,Wi];omega
theorem oA{s:Bd}{op:UInt8}(b:a<s.af.length)(j:Nat):((bu s op a).bk j).start=(s.bk j).start:=by
 rcases qF (op:=op) b with⟨-,-,c⟩|⟨-,-,-,c⟩<;>grind[Bd.bk]
def vS:∀(l:List Nat) {s:Bd},(∀k∈l,k<s.af.length)-> ∀j,((cx l s).bk j).start=(s.bk j).start
 |[],_,_,_=>rfl
 |k::l,s,a,j=>by
  have e:=Vy List.length (jh s 12 k).1;simp only[VH]at e;exact(vS l (λc b=>Ve) j).trans (oA (a k Wy) j)
theorem CE(h:K.af=J.af)(k:Nat):K.bk k=J.bk k:=by grind[Bd.bk]
section
variable{E:Rf.PE}{G:Rf.ez}{c:nt}{s s' s1:Bd}{x:UInt8}{y:Rf.IR}{m stack base res:List UInt8}{l:List Nd}
def Em.wf(h:Em x s y s')(f:Wf s):Wf s'/\ ∀k,(s'.bk k).start=(s.bk k).start:=by
 rcases h with⟨-,-,-,-,d,a⟩|⟨k,-,b,-,-,-,d,a⟩|⟨-,l,n,-,g,-,-,d,a⟩
 .grind[CE,Wf.Ew]
 .exact⟨(f.nK b Ve).same d a,λj=>by rw[CE a];grind[oA]⟩
 .have e:Wf (bo s ⟨14,n,0,0,0⟩):=f.Ew U U;exact⟨(e.xX l (λk b=>(g k b).1)).same d a,λj=>by rw[CE a];exact vS l (s:=bo s _) (λk b=>(g k b).1) j⟩
theorem Lq.get{L:List uL}(e:Lq s L){k:Nat}(g:k<s.af.length)(d:UInt8):∃b,L[k]?=M b/\b.vt=aO (s.bk k)/\(⟨d,0,if (s.bk k).bq=2 then (s.bk k).start else yN L k,(s.bk k).aH,(aO (s.bk k)).length⟩:dQ)=b.ed d:=by
 have a:k<L.length:=by grind[len]
 obtain⟨f,b,a3⟩:=e.ok k L[k] (Vj a);refine⟨L[k],Vj a,b,?_⟩;refine xW U U ?_ f.symm (by rw[<-b];rfl);show(if _ then _ else _)=L[k].goal
 grind[UW]
theorem Em.lay(h:Em x s y s')(q:Wf s)(u:x≠2/\x≠3/\x≠4)(R:x≠5/\x≠11)(v:Rf.fO x=Yk)(hy:∃E b j k,Rf.aX E G b stack x.toNat (Yn j)=(y,Yn k))(w:y.ok=Yk)(hm:stack=m++y.take){C:List dQ}{L:List uL}{S:Nat->Nat} 
  (r:Lq s L)(z:Fin s' C (yN L) S)(f2:Lay C G L res base (m++y.put) (decide (x=0\/x=12\/x=14\/x=15)) s'.ao.length l a):Fin s C (yN L) S/\Lay C G L res base stack Yj s.ao.length (⟨x,y.n,y.ag,[],[],y.value⟩::l) a:=by
 rcases h with⟨A,B,D,F,g,b⟩|⟨k,hx,d,e,h0,I,g,b⟩|⟨rfl,ks,n,J,o,e,I,g,b⟩
 .obtain⟨i,g2,g3⟩:=Fin.Ew q z g b;refine⟨i,.one ⟨A,B,D,F⟩ ⟨u.1,u.2.1,u.2.2,R.1,R.2⟩ v hy w hm g2 g3 ?_⟩;grind
 .obtain⟨i,g2,g3⟩:=Fin.nK q d (z.same g.symm b.symm);have f:s'.ao.length=s.ao.length+1:=by rw[g,EA]
  obtain⟨T,t,W,K⟩:=r.get d (if x=13 then 13 else 12);rw[K]at g3;rw[e,<-r.len];rw[f]at f2;by_cases p:x=13
  .subst p;refine⟨i,.abf (m:=m) t ?_ g2 g3 ?_⟩<;>grind
  .rw[Va p]at g3;have N:x=12\/x=15:=Ve
   rw[show decide (x=0\/x=12\/x=14\/x=15)=Yk by grind]at f2;obtain⟨rfl,rfl⟩:=Ez f2;refine⟨i,.br (m:=m) N t ?_ g2 g3⟩;grind
 .have p:Wf (bo s ⟨14,n,0,0,0⟩):=q.Ew U U;obtain⟨i,g2⟩:=Fin.xX ks p (λk v=>(o k v).1) (z.same g.symm b.symm);obtain⟨g3,g4,g5⟩:=Fin.Ew q i U U;have N:(bo s ⟨14,n,0,0,0⟩).ao.length=s.ao.length+1:=by simp[bo]
  have f:s'.ao.length=s.ao.length+n+2:=by grind[AF]
  obtain⟨rfl,rfl⟩:=Ez f2;rw[e,<-r.len,f];refine⟨g3,.tab (m:=m) (vt:=y.put) Ve J g4 g5 λj k X=>?_⟩;have P:=Vw X;obtain⟨d,hv⟩:=o k P;obtain⟨T,t,W,K⟩:=r.get d 12;obtain⟨g6,g7⟩:=g2 j k X;rw[N]at g6 g7;exact⟨Ve,T,t,by rw[W,hv],g6,by rw[g7,<-K];rfl⟩
end
def Jl{a:List (List UInt8)}{QY:List UInt8}(R:Rl e J a D [])(b:K.af.map core=J.af.map core)(hi:K.i<=e.en)(c:K.stack=D++QY):Rl e K a D QY:=by
 have d:K.af.length=J.af.length:=by have:=Vy List.length b;grind
 refine⟨hi,by rw[R.lab,jg b],λh=>?_,c,by rw[(fQ (kL b)).2.2.1,R.hb]⟩;grind[Rl.ne]
def xh{G:Rf.ez}{c:nt}(A:Ag e G c){x:UInt8}(b:fc c.D a= Yn (x,N)):a<=e.en/\N<=e.en:=by
 obtain⟨d,f⟩:=j7 b;grind[Ag.D]
def OZ{G:Rf.ez}{c:nt}{E:Rf.PE}{y:List (List UInt8)}{h1:Bool}{F:List UInt8}{k5:Bool}{i:Nat}{l:List Nd}{e:Bool}{q:Nat}(t:Tree G E y D h1 F k5 i l e q):
  ∀(s:Bd) (f:List UInt8),Ag E G c->Rl E s y f F->E.d=(s.af.length:Int)-1->s.i=i->s.aR=k5->Wf s->abj G c s f F D l e q:=by
 induction t with
 |fW h hx a g=>
  intro s f A R hd hi K N;subst hi K;exact⟨0,s,_,Y,U,(uO A R.i h).1,hx,U,U,λ_=>rfl,N,⟨_,R.st,a⟩,λC L S z hF=>⟨hF,.nil a⟩⟩
 |one h g j B p a hm t ih=>
  intro s f A R hd hi K N;subst hi;obtain⟨s',r,x0,e1,e2,e3,u,x⟩:=La A R K h g j B p a hm;have T:s'.af.length=s.af.length:=by have:=Vy List.length e3;grind
  obtain⟨I,J⟩:=x.wf N;obtain⟨n,s1,x1,a0,a1,a2,a3,a4,a5,a6,a7,a8,a9⟩:=ih s' f A u Y e1 e2 I;refine⟨1+n,s1,x1,Y,rP R.ne r a1,a2,a3,a4,a5.trans e3,λk=>(a6 k).trans (J k),a7,a8,λC L S z hF=>?_⟩;grind[Lq.move,Em.lay]
 | @az E y D h1 F i x j t k m b p l e q h hx ht hm h2 t1 n t2 h3 h4=>
  intro s f A R hd hi K N;subst hi;obtain⟨s2,b1,b0,b2,b3,b4,b5,b6,R2⟩:=AE A R K hd h hx ht hm h2;have k6:s2.af.length=s.af.length+1:=by rw[b6];simp
  have k3:(if x=3 then 2 else if x=4 then 3 else 1:Nat)=3↔x=4:=Ve
  have w1:(if x=3 then 2 else if x=4 then 3 else 1:Nat)=2↔x=3:=Ve
  have w4:(if x=3 then 2 else if x=4 then 3 else 1:Nat)≠0:=Ve
  have h5:Wf s2:=N.Ex b5 b6 U U (λe=>k3.1 e);obtain⟨n1,a,x3,c0,c1,c2,c3,c4,c5,c6,c7,⟨w2,c8,k7⟩,c9⟩:=h3 s2 (f++m) (A.uw _) R2 Ve b2 b3 h5;have h6:x3=11:=by
   grind
  subst h6;have T:a.af.length=s.af.length+1:=by have:=Vy List.length c5;grind
  have h7:s2.bk s.af.length=⟨if x=3 then 2 else if x=4 then 3 else 1,rs t,(f++m).length,s.ao.length+1,[]⟩:=by unfold Bd.bk;grind
  have h8:a.top=a.bk s.af.length:=by grind[Bd.top]
  obtain⟨d1,d2,d3,d4⟩:=tD c5 s.af.length;rw[h7,<-h8]at d1 d2 d4;have R3:=Jl R2 c5 (xh A c2).1 c8;obtain⟨u,g1,g2,g3,g4,g5,g6,g7⟩:=xZ (A.uw _) R3 c2 Ve Ve;rw[d4]at g6;have r:u.af.map core=s.af.map core:=by
   grind
  have W:u.af.length=s.af.length:=by have:=Vy List.length r;grind
  obtain⟨q1,q2,q3,-⟩:=xY (s:={a with pos:=a.i,i:=p}) (by show a.top.bq≠0;grind) g2 (λe=>(c7.cond _ e).1);have X:Wf {a with pos:=a.i,i:=p}:=c7.same U U;have h9:Wf u:=X.OX q1 q2 q3;have I:∀k,(u.bk k).start=(s.bk k).start:=λk=>by
   rw[CD (s:={a with pos:=a.i,i:=p}) q3];show(if k<a.af.length-1 then a.bk k else lO).start=_
   rw[T,X7];split
   .rename_i B;rw[c6 k];unfold Bd.bk;grind
   grind[oy]
  have w5:=fQ (kL r);have R4:Rl E u y f (m++rs t):=⟨Ve,by rw[R.lab,jg r],λh=>by grind[Rl.ne],Ve,by grind[Rl.hb]⟩;obtain⟨n2,s1,x1,a0,a1,a2,a3,a4,a5,a6,a7,a8,a9⟩:=h4 u f A R4 Y g3 g5 h9;have J:a.af≠[]:=R3.ne;have w3:=(j7 c2).1;refine⟨1+(n1+1+n2),s1,x1,Y,rP R.ne b1 (ry _ _ _ _ _ (oz c1 J g1) a1),a2,a3,a4,a5.trans r,λk=>(a6 k).trans (I k),a7,a8,λC L S z hF=>?_⟩;obtain⟨f1,f2⟩:=a9 C L S (z.move r I) hF;have k4:=Fin.OX X J (by show a.top.bq≠0;grind) g2 f1;have k0:u.ao.length=a.ao.length:=q1;have h0:a.af.length-1=L.length:=by grind[Lq.len]
  obtain⟨lb,g⟩:=bL (⟨if x=3 then s.ao.length+1 else a.ao.length,f++m,if x=3 then []else rs t⟩:uL);have k1:Lq s2 (L++[lb]):=z.push b6 (by rw[g]) (by rw[g,OY x t hx]) Ve;have k8:Fin a C (yN (L++[lb])) (mS S L.length a.ao.length):=by
   refine(k4.same (s':=a) U U).Ey (λk B=>?_) (λk B=>Ve);show(a.bk k).waits=[]\/mS (yN L) (a.af.length-1) a.ao.length k=_
   rw[h0,pL];unfold mS;by_cases he:k=L.length
   .rw[Vi he,Vi he,g];grind[Wf.loop]
   grind
  obtain⟨f3,f4⟩:=c9 C _ _ k1 k8;have k2:(s.bk s.af.length).waits=[]/\(s.bk s.af.length).bq=0:=by rw[oy s cQ];exact⟨U,U⟩
  obtain⟨f5,f6,f7⟩:=Fin.Ex N f3 b5 b6 U U k2;rw[b3,show s2.ao.length=s.ao.length+1 by rw[b5];simp]at f4;rw[g5,k0]at f2;refine⟨f5.Ey (λk B=> Yp (by rw[pL,Va Y])) (λk B=>by unfold mS;grind),?_⟩;rw[K];by_cases w6:x=4
  .subst w6;have k9:rs t=[]:=n U;rw[k9]at f2 f4 g⊢;rw[VF]at f2;rw[Va Vb,Va Vb]at g;rw[g]at f4;refine .ifn (by rw[hm];rfl) f6 ?_ f4 f2;grind[mS]
  .have k9:x=2\/x=3:=Ve
   have w0:F=m:=Ve
   rw[w0];rw[g]at f4;exact .az k9 (Nq t) f6 (by rw[f7]) f4 f2
 | @ife E y D h1 F i j t k m b p c' p2 l e q h ht hm h2 t1 t3 t2 h3 w4 h4=>
  intro s f A R hd hi K N;subst hi;obtain⟨s2,b1,b0,b2,b3,b4,b5,b6,R2⟩:=AE A R K hd h (Yp (Yp U)) ht (by rw[hm];rfl) h2;have k6:s2.af.length=s.af.length+1:=by rw[b6];simp
  have h5:Wf s2:=N.Ex b5 b6 U U (λ_=>rfl);obtain⟨n1,a,x3,c0,c1,c2,c3,c4,c5,c6,c7,⟨w2,c8,k7⟩,c9⟩:=h3 s2 (f++m) (A.uw _) R2 (by show E.d+1=_;rw[hd,k6];omega) b2 b3 h5;have h6:x3=5:=by
   rcases c3 with e|e
   .exact e
   .rw[e]at c4;cases c4
  subst h6;have T:a.af.length=s.af.length+1:=by have:=Vy List.length c5;simp at this;omega
  have h7:s2.bk s.af.length=⟨3,rs t,(f++m).length,s.ao.length+1,[]⟩:=by unfold Bd.bk;rw[b6];exact(xg _).trans (Vi U)
  have h8:a.top=a.bk s.af.length:=by unfold Bd.top;rw[T];rfl
  obtain⟨d1,d2,d3,d4⟩:=tD c5 s.af.length;rw[h7,<-h8]at d1 d2 d3 d4;have R3:=Jl R2 c5 (xh A c2).1 c8;obtain⟨u,g1,g2,g3,g4,g5,g6,g7⟩:=Lc (A.uw _) R3 c2 d1 (by rw[d4];exact k7);have X:Wf {a with pos:=a.i,i:=p}:=c7.same U U;have J:a.af≠[]:=R3.ne;obtain⟨h9,w5,w6⟩:=KZ X J d1 g2;have w7:core {a.top with bq:=4}=core (⟨4,rs t,(f++m).length,s.ao.length+1,[]⟩:Bk):=by
   show(⟨4,a.top.aL,a.top.aH,0,[]⟩:Bk)=⟨4,rs t,(f++m).length,0,[]⟩
   rw[d4,d2]
  have r:u.af.map core=(s.af++[(⟨4,rs t,(f++m).length,s.ao.length+1,[]⟩:Bk)]).map core:=by
   rw[g7,List.map_dropLast,c5,b6,Wb,X8,XX,w7];simp
  have W:u.af.length=s.af.length+1:=by have:=Vy List.length r;simpa using this
  have I:∀k,(u.bk k).start=(a.bk k).start:=λk=>by
   unfold iC at g2;split at g2
   .cases g2
   .cases g2;have n:a.af.length-1<a.af.length:=Y
    have x:=oA (s:={a with pos:=a.i,i:=p}) (op:=5) n k;have k3:=oA (s:={a with pos:=a.i,i:=p}) (op:=5) n;have k4:(bu {a with pos:=a.i,i:=p} 5 (a.af.length-1)).af.length=a.af.length:=by have:=Vy List.length (jh {a with pos:=a.i,i:=p} 5 (a.af.length-1)).1;simpa using this
    refine Eq.trans ?_ x;show(((bu {a with pos:=a.i,i:=p} 5 (a.af.length-1)).af.set ((bu {a with pos:=a.i,i:=p} 5 (a.af.length-1)).af.length-1) {(bu {a with pos:=a.i,i:=p} 5 (a.af.length-1)).top with bq:=4}).getD k lO).start=_
    rw[GU Y];split
    .rename_i e;subst e;rfl
    .rfl
  have R4:Rl {E with d:=E.d+1} u (y++[rs t]) (f++m) []:=by
   have n:u.af.map aO=s.af.map aO++[rs t]:=by
    have:=Vy (List.map aO) r;simp only[Xg,Function.comp_def,oq]at this;rw[this];simp[aO]
   refine⟨by rw[g3];exact g4,by rw[R.lab,n],λh=>by rw[h]at W;simp at W,by rw[g6,VF],?_⟩;have:=uK (s:=u) (l:=s.af.map core) (b:=core ⟨4,rs t,(f++m).length,s.ao.length+1,[]⟩) (by rw[r,Wb];rfl);have w8:(core u.top).aH=(f++m).length:=by rw[this];rfl
   exact w8
  obtain⟨n3,n,x5,x0,e1,e2,e3,e4,e5,x2,s8,⟨x4,x6,w9⟩,x7⟩:=w4 u (f++m) (A.uw _) R4 (by show E.d+1=_;rw[hd,W];omega) g3 g5 h9;have e0:x5=11:=by
   rcases e3 with e|e
   .rw[e]at e4;cases e4
   .exact e
  subst e0;have k3:n.af.length=s.af.length+1:=by have:=Vy List.length e5;simp at this;omega
  have x8:n.top=n.bk s.af.length:=by unfold Bd.top;rw[k3];rfl
  have e6:core n.top=core (⟨4,rs t,(f++m).length,s.ao.length+1,[]⟩:Bk):=uK (s:=n) (l:=s.af.map core) (by rw[e5,r,Wb];rfl);obtain⟨e7,s9,H2,-⟩:=fQ e6;have R5:=Jl R4 e5 (xh A e2).1 x6;obtain⟨s6,o1,o2,o3,o4,o5,o6,o7⟩:=xZ (A.uw _) R5 e2 (by rw[e7];rintro⟨e,-⟩;cases e) (by rw[s9];exact w9);rw[s9]at o6;have x:s6.af.map core=s.af.map core:=by
   rw[o7,List.map_dropLast,e5,r,Wb,X8,XX]
  have k4:s6.af.length=s.af.length:=by have:=Vy List.length x;simpa using this
  obtain⟨q1,q2,q3,-⟩:=xY (s:={n with pos:=n.i,i:=p2}) (by show n.top.bq≠0;rw[e7];simp) o2 (λe=>(s8.cond _ e).1);have k8:Wf {n with pos:=n.i,i:=p2}:=s8.same U U;have e8:Wf s6:=k8.OX q1 q2 q3;have k9:∀k,(s6.bk k).start=(s.bk k).start:=λk=>by
   rw[CD (s:={n with pos:=n.i,i:=p2}) q3];show(if k<n.af.length-1 then n.bk k else lO).start=_
   rw[k3,X7];split
   .rename_i B;rw[x2 k,I k,c6 k];unfold Bd.bk;rw[b6,xg,Va Y]
   .rename_i B;rw[oy s Y]
  have e9:=fQ (kL x);have R6:Rl E s6 y f (m++rs t):=⟨by rw[o3];exact o4,by rw[R.lab,jg x],λh=>by rw[h]at k4;exact R.ne (WS k4.symm),by rw[o6,VD],by rw[e9.2.2.1,R.hb]⟩;obtain⟨n2,s1,x1,a0,a1,a2,a3,a4,a5,a6,a7,a8,a9⟩:=h4 s6 f A R6 (by rw[k4];exact hd) o3 o5 e8;have w0:n.af≠[]:=R5.ne;have w3:=(j7 c2).1;have x9:=(j7 e2).1;refine⟨1+(n1+1+(n3+1+n2)),s1,x1,Y,rP R.ne b1 (ry _ _ _ _ _ (oz c1 J g1) (ry _ _ _ _ _ (oz e1 w0 o1) a1)),a2,a3,a4,a5.trans x,λk=>(a6 k).trans (k9 k),a7,a8,λC L S z hF=>?_⟩;obtain⟨f1,f2⟩:=a9 C L S (z.move x k9) hF;have s0:=Fin.OX k8 w0 (by show n.top.bq≠0;rw[e7];simp) o2 f1;have k0:=q1;have h0:n.af.length-1=L.length:=by rw[z.len,k3];rfl
  have w1:a.af.length-1=L.length:=by rw[z.len,T];rfl
  obtain⟨lb,g⟩:=bL (⟨n.ao.length,f++m,rs t⟩:uL);have k1:Lq s2 (L++[lb]):=z.push b6 (by rw[g]) (by rw[g];rfl) (by intro e;cases e);have s3:Lq u (L++[lb]):=(z.push (s2:={s with af:=s.af++[⟨4,rs t,(f++m).length,s.ao.length+1,[]⟩]}) U (by rw[g]) (by rw[g];rfl) (by intro e;cases e)).move r (λk=>by
   rw[I,c6];unfold Bd.bk;rw[b6,xg,xg];split <;>rfl)
  have s4:Fin n C (yN (L++[lb])) (mS S L.length n.ao.length):=by
   refine(s0.same (s':=n) U U).Ey (λk B=> Yp ?_) (λk B=>by show mS S (n.af.length-1) n.ao.length k=_;rw[h0]);show mS (yN L) (n.af.length-1) n.ao.length k=_
   rw[h0,pL];unfold mS;by_cases he:k=L.length
   .rw[Vi he,Vi he,g]
   .rw[Va he,Va he]
  obtain⟨f3,f4⟩:=x7 C _ _ s3 s4;obtain⟨f5,f6,f7⟩:=w6 f3;have s5:Fin a C (yN (L++[lb])) (mS (mS S L.length n.ao.length) L.length (a.ao.length+1)):=by
   refine(f5.same (s':=a) U U).Ey (λk B=> Yp U) (λk B=>by show mS _ (a.af.length-1) _ k=_;rw[w1])
  obtain⟨f8,S⟩:=c9 C _ _ k1 s5;have k2:(s.bk s.af.length).waits=[]/\(s.bk s.af.length).bq=0:=by rw[oy s cQ];exact⟨U,U⟩
  obtain⟨H0,w8,H1⟩:=Fin.Ex N f8 b5 b6 U U k2;rw[b3,show s2.ao.length=s.ao.length+1 by rw[b5];simp]at S;rw[g5,show u.ao.length=a.ao.length+1 from w5]at f4;rw[o5,k0]at f2;refine⟨H0.Ey (λk B=> Yp (by rw[pL,Va (by rw[z.len];omega)])) (λk B=>by unfold mS;rw[Va (by rw[z.len];omega),Va (by rw[z.len];omega)]),?_⟩;rw[K];have B:yN (L++[lb]) (a.af.length-1)=n.ao.length:=by rw[w1,pL,Vi U,g]
  rw[g]at S f4;refine .ife hm (Nq t) w8 ?_ S f6 ?_ f4 f2
  .rw[H1];simp only[mS,z.len];rfl
  .have s7:C.getD a.ao.length bD=⟨5,0,yN (L++[lb]) (a.af.length-1),a.top.aH,(aO a.top).length⟩:=f7;rw[s7,B,d2,d3];rfl
def Rf.dm{α:Type}(E:Rf.PE)(most:Int)(one:Rf.PS->α×Rf.PS)(σ:Rf.PS):List α×Rf.PS:=Rf.pK one (Rf.uM E most σ).1 [] (Rf.uM E most σ).2
def Rf.fS(E:Rf.PE)(σ:Rf.PS):Rf.PS:=(Rf.cB E 1 1 1 (Rf.cB E 75 75 75 (Rf.cB E 84 84 84 (Rf.cB E 83 83 83 σ).2).2).2).2
def Rf.ju(E:Rf.PE)(σ:Rf.PS):(List Ty×List Ty×List (UInt8×UInt8×Nat)×Nat)×Rf.PS:=
 let ts:=Rf.dm E 16 (Rf.iN E) (Rf.fS E σ)
 let fs:=Rf.dm E 16 (Rf.rf E ts.1) ts.2
 let gs:=Rf.dm E 8 (Rf.lf E) fs.2
 ((ts.1,fs.1,gs.1,(Rf.uM E 4 gs.2).1),(Rf.uM E 4 gs.2).2)
def Rf.gh(E:Rf.PE)(funcs:List Ty)(bO:List (UInt8×UInt8×Nat)):List Ty->Rf.PS->Rf.PS
 |[],σ=>σ
 |_::_,Ym e=> Ym e
 |t::rest,Yn i=>gh E funcs bO rest (Rf.gO E funcs bO t i)
def Rf.jv(E:Rf.PE):Except (Int×Int) (List Ty×List Ty×List (UInt8×UInt8×Nat)×Nat):=
 if 2000<E.data.length then Ym (1,0)else
 let h:=Rf.ju E (Yn 0)
 match Rf.gh E h.1.2.1 h.1.2.2.1 h.1.2.1 h.2 with
 | Ym e=> Ym e
 | Yn i=>if i<E.data.length then Ym (2,(i:Int))else Yn h.1
theorem jR(E:Rf.PE)(a:List Ty)(b:List (UInt8×UInt8×Nat))(l:List Ty)(e:Int×Int):Rf.gh E a b l (Ym e)= Ym e:=by
 cases l<;>rfl
theorem qH{b:Type}(E:Rf.PE)(a:Int)(one:Rf.PS->b×Rf.PS)(e:Int×Int):(Rf.dm E a one (Ym e)).2= Ym e:=by
 rfl
def E0{b:List Ty}(h:dF D a= Yn (b,N)):∀x∈b,x.1.length<=8/\x.2.length<=1:=by
 unfold dF at h;split at h
 .cases h
 .exact(ji ET _ _ _ _ h).2
def E2{b c:List Ty}(d:∀x∈b,x.1.length<=8/\x.2.length<=1)(h:pA D b a= Yn (c,N)):∀x∈c,x.1.length<=8/\x.2.length<=1:=by
 unfold pA at h;split at h
 .cases h
 .refine(ji (p:=λx:Ty=>x.1.length<=8/\x.2.length<=1) (λa x N e=>?_) _ _ _ _ h).2;grind
section
variable{E:Rf.PE}{i:Nat}(he:E.en<=E.data.length)
include he
def yj{c:Type}{one:Rf.PS->c×Rf.PS}{m:Nat->Rd c}(a:Int)(f:∀i,i<=E.en->gF (one (Yn i)) (m i))(g:∀i,i<=E.en->Rb E.en (m i))(hi:i<=E.en):
  gF (Rf.dm E a one (Yn i)) (match bp (E.data.take E.en) (a+1) i with | Ym e=> Ym e| Yn (n,j)=>cD m n j):=by
 have d:=Cq he a hi;have h:=cY (D:=E.data.take E.en) (i:=i) (a+1) Ve;unfold Rf.dm;cases b:bp (E.data.take E.en) (a+1) i with
 |error e=>
  rw[d.err b];exact Eu _ _ _ _
 |ok x=>
  obtain⟨n,j⟩:=x;rw[d.ok b];have e:=h.ok b;rw[ja he]at e;have:=KY f g n j [] e;grind
def PF(hi:i<=E.en):match pB (E.data.take E.en) i with | Ym e=>Rf.fS E (Yn i)= Ym e| Yn (_,j)=>Rf.fS E (Yn i)= Yn j:=by
 have d:∀(a:UInt8) (i:Nat),i<=E.en->gF (Rf.cB E a a a (Yn i)) (bP (E.data.take E.en) [a] i):=λa i hi=>qB he (a:=a) (b:=a) (c:=a) (al:=[a]) Vc hi
 have f:∀(a:UInt8) (i:Nat),i<=E.en-> ∀x j,bP (E.data.take E.en) [a] i= Yn (x,j)->j<=E.en:=λa i hi x j h=>by
  have g:=(eF (D:=E.data.take E.en) (i:=i) [a] Ve).ok h;grind
 unfold pB Rf.fS;cases g:bP (E.data.take E.en) [83] i with
 |error e=>grind[pJ,gF.err]
 |ok l=>
  obtain⟨l,h⟩:=l;have m:=f 83 i hi _ _ g;simp only[(d 83 i hi).ok g];cases n:bP (E.data.take E.en) [84] h with
  |error e=>grind[pJ,gF.err]
  |ok o=>
   obtain⟨o,k⟩:=o;have p:=f 84 h m _ _ n;simp only[(d 84 h m).ok n];cases q:bP (E.data.take E.en) [75] k with
   |error e=>grind[pJ,gF.err]
   |ok r=>
    obtain⟨r,s⟩:=r;have u:=f 75 k p _ _ q;simp only[(d 75 k p).ok q];cases v:bP (E.data.take E.en) [1] s with
    |error e=>grind[gF.err]
    |ok t=>
     obtain⟨t,w⟩:=t;simp only[(d 1 s u).ok v]
end
def CQ(b:A.en=A.data.length)(c:A.data.length<=2000)(fs:List Ty)(a:List (UInt8×UInt8×Nat)):∀(l:List Ty) (ao:List dQ) (i:Nat),(∀x∈l,x.1.length<=8/\x.2.length<=1)->i<=A.en->
  Rf.gh A fs a l (Yn i)=match dq A.data fs (a.map λg=>(g.1,g.2.1==1)) l ao i with | Ym e=> Ym e| Yn (_,q)=> Yn q:=by
 intro l;induction l with
 |nil=>intro ao i _ _;rfl
 |cons t rest ih=>
  intro ao i f hi;rw[Rf.gh,dq];have d:=GR b c (typ:=t) Ve fs a ao hi;have h:=Sv (D:=A.data) (fs:=fs) (gl:=a.map λg=>(g.1,g.2.1==1)) (typ:=t) (ao:=ao) (i:=i) Y;rw[d];cases j:nD A.data fs (a.map λg=>(g.1,g.2.1==1)) t ao i with
  |error e=>grind[jR]
  |ok y=>
   grind[Rb.ok]
def Hd{d:List Ty}{e:List (UInt8×Bool)}:∀(l:List Ty) (b:List dQ) (i:Nat) (a:List vM) (c:List dQ) (k:Nat),dq D d e l b i= Yn ((a,c),k)->a.map (·.typ)=l:=by
 intro l;induction l with
 |nil=>intro b i a c k h;cases h;rfl
 |cons t rest ih=>
  grind[dq,nD]
theorem PL(h:a<=D.length):Rb D.length (rz D a):=by
 have b:=I6 h;rw[Et]at b;cases c:rz D a with
 |error e=>rw[c]at b;exact b
 |ok x=>
  obtain⟨x,j⟩:=x;rw[c]at b;exact b
def vX(g:UInt8×UInt8×Nat):(UInt8×Bool)×Nat:=((g.1,g.2.1==1),g.2.2)
def CS(D:List UInt8)(i:Nat):Rd (List (UInt8×UInt8×Nat)):=
 match bp D 9 i with
 | Ym e=> Ym e
 | Yn (n,j)=>cD (rz D) n j
def LO(D:List UInt8)(i:Nat):lR D i=match CS D i with | Ym e=> Ym e| Yn (l,j)=> Yn (l.map vX,j):=by
 unfold lR CS;cases bp D 9 i with
 |error e=>rfl
 |ok y=>
  obtain⟨n,j⟩:=y;simp only;rw[OU (m:=jE D) (m':=rz D) (g:=vX) (λi=>by
   rw[Et];cases rz D i<;>rfl) n j]
  grind
theorem pP(a: ¬2000<A.data.length){e:Int×Int}(h:(Rf.ju A (Yn 0)).2= Ym e):Rf.jv A= Ym e:=by
 simp_all[Rf.jv,Va,jR]
def rV{E:Rf.PE}(he:E.en=E.data.length):match iE E.data with
  | Ym e=>Rf.jv E= Ym e
  | Yn f=> ∃b a,Rf.jv E= Yn (b,f.funcs.map (·.typ),a,f.bI)/\f.globals=a.map (·.2.2)/\E.data.length<=2000/\(∀x∈f.funcs.map (·.typ),x.1.length<=8/\x.2.length<=1)/\
   ∃l w,Rf.ju E (Yn 0)=((b,f.funcs.map (·.typ),a,f.bI),Yn l)/\l<=E.data.length/\dq E.data (f.funcs.map (·.typ)) (a.map λg=>(g.1,g.2.1==1)) (f.funcs.map (·.typ)) [] l= Yn ((f.funcs,f.ao),w)/\ ∃d n,lR E.data d= Yn (a.map vX,n)/\bp E.data 5 n= Yn (f.bI,l):=by
 have f:E.en<=E.data.length:=Y
 have h:E.data.take E.en=E.data:=Ve
 unfold iE;by_cases z:2000<E.data.length
 .simp_all[Rf.jv]
 .rw[Va z];have A:=PF (E:=E) (i:=0) f Y;have B:=Oh (D:=E.data) (i:=0) Y;rw[h]at A;have c:Rf.ju E (Yn 0)=(((Rf.dm E 16 (Rf.iN E) (Rf.fS E (Yn 0))).1,(Rf.dm E 16 (Rf.rf E (Rf.dm E 16 (Rf.iN E) (Rf.fS E (Yn 0))).1) (Rf.dm E 16 (Rf.iN E) (Rf.fS E (Yn 0))).2).1,(Rf.dm E 8 (Rf.lf E) (Rf.dm E 16 (Rf.rf E (Rf.dm E 16 (Rf.iN E) (Rf.fS E (Yn 0))).1) (Rf.dm E 16 (Rf.iN E) (Rf.fS E (Yn 0))).2).2).1,(Rf.uM E 4 (Rf.dm E 8 (Rf.lf E) (Rf.dm E 16 (Rf.rf E (Rf.dm E 16 (Rf.iN E) (Rf.fS E (Yn 0))).1) (Rf.dm E 16 (Rf.iN E) (Rf.fS E (Yn 0))).2).2).2).1),(Rf.uM E 4 (Rf.dm E 8 (Rf.lf E) (Rf.dm E 16 (Rf.rf E (Rf.dm E 16 (Rf.iN E) (Rf.fS E (Yn 0))).1) (Rf.dm E 16 (Rf.iN E) (Rf.fS E (Yn 0))).2).2).2).2):=rfl;cases h1:pB E.data 0 with
  |error e=>
   grind[pP,qH,Jj]
  |ok x1=>
   obtain⟨u1,C⟩:=x1;rw[h1]at A;have F:=A;have k1:=B.ok h1;rw[F]at c;have I:=yj (E:=E) (i:=C) f (one:=Rf.iN E) (m:=nC E.data) 16 (λi hi=>by grind[Sd]) (λi hi=>by grind[I5]) Y;rw[h]at I;have o:=I;have J:=Od (D:=E.data) (i:=C) k1;clear I;simp only;cases p:dF E.data C with
   |error e=>
    refine pP z ?_;rw[c];simp only[o.err p,qH,Jj]
   |ok x2=>
    obtain⟨b,K⟩:=x2;have k2:=J.ok p;rw[o.ok p]at c;simp only at c;have L:=yj (E:=E) (i:=K) f (one:=Rf.rf E b) (m:=λi=>match bp E.data b.length i with | Ym e=> Ym e| Yn (k,j)=> Yn (b.getD k ([],[]),j)) 16 (λi hi=>by grind[UT]) (λi hi=>by
     have r:=cY (D:=E.data) (i:=i) (b.length:Int) Y;rw[he];cases q:bp E.data b.length i with
     |error e=>rw[q]at r;exact r
     |ok y=>rw[q]at r;exact r) Y
    rw[h]at L;have k:=L;have y:=Oe (D:=E.data) (i:=K) b k2;clear L;simp only;cases s:pA E.data b K with
    |error e=>
     refine pP z ?_;rw[c];simp only[k.err s,qH,Jj]
    |ok x3=>
     obtain⟨j,d⟩:=x3;have k3:=y.ok s;rw[k.ok s]at c;simp only at c;have N:=yj (E:=E) (i:=d) f (one:=Rf.lf E) (m:=rz E.data) 8 (λi hi=>by grind[Se]) (λi hi=>by grind[PL]) Y;rw[h]at N;have t:gF (Rf.dm E 8 (Rf.lf E) (Yn d)) (CS E.data d):=N;have P:=Og (D:=E.data) (i:=d) k3;have u:=LO E.data d;clear N;simp only;generalize CS E.data d=G at *;cases G with
     |error e=>
      have v:lR E.data d= Ym e:=u;rw[v];refine pP z ?_;rw[c];have:=t.err U;grind[Jj]
     |ok x4=>
      obtain⟨a,n⟩:=x4;have v:lR E.data d= Yn (a.map vX,n):=u;have k4:n<=E.data.length:=P.ok v;rw[v];rw[t.ok U]at c;simp only at c⊢;have hp:=Cq (E:=E) (i:=n) f 4 Y;rw[h]at hp;have R:=hp;have S:=cY (D:=E.data) (i:=n) 5 k4;cases T:bp E.data 5 n with
      |error e=>
       grind[pP,gF.err]
      |ok x5=>
       obtain⟨W,l⟩:=x5;have k5:=S.ok T;rw[R.ok T]at c;simp only at c⊢;have r:=CQ he Y j a j [] l (E2 (E0 p) s) Y;have X:List.map (λx:(UInt8×Bool)×Nat=>x.1) (a.map vX)=a.map λg=>(g.1,g.2.1==1):=by rw[Xg];rfl
       rw[X];have x:Rf.jv E=match (match dq E.data j (a.map λg=>(g.1,g.2.1==1)) j [] l with | Ym e=> Ym e| Yn (_,q)=> Yn q:Rf.PS)with | Ym e=> Ym e| Yn i=>if i<E.data.length then Ym (2,(i:Int))else Yn (b,j,a,W):=by
        unfold Rf.jv;grind
       cases q:dq E.data j (a.map λg=>(g.1,g.2.1==1)) j [] l with
       |error e=>grind
       |ok g=>
        obtain⟨⟨h0,h2⟩,w⟩:=g;rw[q]at x;simp only at x⊢;have e:=Hd _ _ _ _ _ _ q;by_cases h7:w<E.data.length
        .grind
        .rw[Va h7]at x⊢;refine⟨b,a,?_,?_,Y,by rw[e];exact E2 (E0 p) s,l,w,Ve,k5,Ve,d,n,v,T⟩<;>simp_all[vX]
end
namespace Rf
section
open Go.RowKit
structure Bl(w:Yw)(base:Nat)(tv fv gv v:Yx)(l:List UInt8):Prop where
 row:aq w v l
 far:∀b,v.ownBlock=M b->base<=b/\b<w.heap.size/\tv.ownBlock≠M b/\fv.ownBlock≠M b/\gv.ownBlock≠M b
def nN(w:Yw)(base:Nat)(tv fv gv:Yx)(sz:Nat)(l:List (List UInt8×List UInt8))(cells:List Yx):Prop:=
 ∀(k:Nat) (x:List UInt8×List UInt8),l[k]?=M x-> ∃pv rv,cells[k*sz]?=M pv/\cells[k*sz+1]?=M rv/\Bl w base tv fv gv pv x.1/\Bl w base tv fv gv rv x.2
def PG(l:List (UInt8×UInt8×Nat))(cells:List Yx):Prop:=
 ∀(k:Nat) (x:UInt8×UInt8×Nat),l[k]?=M x->cells[k*3]?=M (V Ys x.1.toNat)/\cells[k*3+1]?=M (V Ys x.2.1.toNat)/\cells[k*3+2]?=M (V Yr x.2.2)
structure kM(w:Yw)(pb mb base:Nat)(E:PE)(tv fv gv:Yx)(bI:Int)(ts fs:List (List UInt8×List UInt8))(gs:List (UInt8×UInt8×Nat))(σ:PS):Prop where
 st:dR w pb E σ
 Q4:pb<base
 Sw:mb<base
 ne:mb≠pb
 bm:B7 E.b E.data≠M mb
 bs:base<=w.heap.size
 az:w.heap[mb]?=M (Yl #[tv,fv,gv,V O bI] 149)
 zm:∃cells,w.ownsRow base 190 2 tv ts.length cells/\nN w base tv fv gv 2 ts cells
 ny:∃cells,w.ownsRow base 193 4 fv fs.length cells/\nN w base tv fv gv 4 fs cells
 CR:∃cells,w.ownsRow base 198 3 gv gs.length cells/\PG gs cells
 tf:∀b,tv.ownBlock=M b->fv.ownBlock≠M b/\gv.ownBlock≠M b
 fg:∀b,fv.ownBlock=M b->gv.ownBlock≠M b
 tl:ts.length<=16
 tll:∀x∈ts,x.1.length<=8/\x.2.length<=1
 fl:fs.length<=16
 fll:∀x∈fs,x.1.length<=8/\x.2.length<=1
 gl:gs.length<=8
theorem Bl.on{w w':Yw}{gv U0 U1 gv' v:Yx}(h:Bl w a u z gv v D)(k:Kp R w w')(c:∀b,v.ownBlock=M b-> ¬R b)
  (e:U0.ownBlock=u.ownBlock\/ ∃b,U0.ownBlock=M b/\w.heap.size<=b)(f:U1.ownBlock=z.ownBlock\/ ∃b,U1.ownBlock=M b/\w.heap.size<=b)(g:gv'.ownBlock=gv.ownBlock\/ ∃b,gv'.ownBlock=M b/\w.heap.size<=b):Bl w' a U0 U1 gv' v D:=by
 refine⟨h.row.kp k c,λb d=>?_⟩;obtain⟨i,j,l,m,n⟩:=h.far b d;have o:=k.size;grind
theorem nN.on{w w':Yw}{gv U0 U1 gv':Yx}{l:List (List UInt8×List UInt8)}(h:nN w a u z gv N l F)(k:Kp R w w')(y:∀b,a<=b->u.ownBlock≠M b->z.ownBlock≠M b->gv.ownBlock≠M b-> ¬R b)
  (d:U0.ownBlock=u.ownBlock\/ ∃b,U0.ownBlock=M b/\w.heap.size<=b)(e:U1.ownBlock=z.ownBlock\/ ∃b,U1.ownBlock=M b/\w.heap.size<=b)(f:gv'.ownBlock=gv.ownBlock\/ ∃b,gv'.ownBlock=M b/\w.heap.size<=b):nN w' a U0 U1 gv' N l F:=by
 intro j x m;obtain⟨n,o,p,q,g,i⟩:=h j x m;exact⟨n,o,p,q,g.on k (λb c=>by obtain⟨r,-,s,t,v⟩:=g.far b c;grind) d e f,i.on k (λb c=>by obtain⟨r,-,s,t,v⟩:=i.far b c;grind) d e f⟩
theorem nN.rI{gv pv rv:Yx}{l:List (List UInt8×List UInt8)}{more:List Yx}{x:List UInt8×List UInt8}(h:nN W a u z gv N l F)(e:F.length=l.length*N)(f:Bl W a u z gv pv x.1)(g:Bl W a u z gv rv x.2)(i:more[0]?=M pv)(k:more[1]?=M rv):nN W a u z gv N (l++[x]) (F++more):=by
 intro j y c;rcases Nat.lt_trichotomy j l.length with b|m|d
 .rw[VC b]at c;obtain⟨p,r,n,o,q,s⟩:=h j y c;grind
 .grind
 grind
theorem PG.rI{l:List (UInt8×UInt8×Nat)}{x:UInt8×UInt8×Nat}(h:PG l F)(d:F.length=l.length*3):PG (l++[x]) (F++[V Ys x.1.toNat,V Ys x.2.1.toNat,V Yr x.2.2]):=by
 intro j y b;rcases Nat.lt_trichotomy j l.length with a|e|c
 .rw[VC a]at b;obtain⟨f,g,i⟩:=h j y b;grind
 .grind
 grind
def dR.off{S:Nat->Prop}{w':Yw}{d:PS}(h:dR W a A d)(k:Kp S W w')(c: ¬S a)(f:∀b,B7 A.b A.data=M b-> ¬S b):dR w' a A d:=
 ⟨λi b=>⟨(h.ok i b).1,k.az (h.ok i b).2 c⟩,λe q g=>by
  obtain⟨j,i,hi,b⟩:=h.bad e q g;exact⟨j,i,hi,k.az b c⟩,h.bytes.kp k f,h.low,h.len,h.en⟩
theorem kM.kp{w':Yw}{base:Nat}{gv:Yx}{bI:Int}{j m:List (List UInt8×List UInt8)}{p:List (UInt8×UInt8×Nat)}{q c:PS}(h:kM W a N base A u z gv bI j m p q)(k:Kp (one a) W w')(s:dR w' a A c):kM w' a N base A u z gv bI j m p c:=by
 have t:=h.Q4;have g:=h.bs;have E:=k.size;obtain⟨c1,w,x⟩:=h.zm;obtain⟨c2,y,B⟩:=h.ny;obtain⟨c3,C,D⟩:=h.CR;have i:∀{e:TypeId} {d n:Nat} {v:Yx} {b:List Yx},W.ownsRow base e d v n b->w'.ownsRow base e d v n b:=λo=>k.own o (λb g e=>by have:=aK o b g;grind[one])
 have n:∀{d:Nat} {l:List _} {f:List Yx},nN W base u z gv d l f->nN w' base u z gv d l f:=λr=>r.on k (λb g _ _ _ e=>by grind[one]) (Yo U) (Yo U) (Yo U)
 exact⟨s,t,h.Sw,h.ne,h.bm,Y,k.az h.az h.ne,⟨c1,i w,n x⟩,⟨c2,i y,n B⟩,⟨c3,i C,D⟩,h.tf,h.fg,h.tl,h.tll,h.fl,h.fll,h.gl⟩
section
variable{w w':World}{pb mb base:Nat}{E:PE}{tv fv gv:Value}{bI:Int}{ts fs:List (List UInt8×List UInt8)}{gs:List (UInt8×UInt8×Nat)}{σ:PS}(h:kM w pb mb base E tv fv gv bI ts fs gs σ)
include h
def uV{P:Prop}(h:P:=by
 rcases e with e|e
 .exact h.bm (e▸hb)
 .have :=h.st.low b hb;grind[aK]):P:=h
def kM.acM{rv:Yx}{x:List UInt8×List UInt8}(k:Kp (λb=>b=mb\/tv.ownBlock=M b) w w')(hb:w'.heap[mb]?=M (Yl #[u,fv,gv,V O bI] 149))
  (p:F.length=ts.length*2)(q:nN w base tv fv gv 2 ts F)(s:w'.ownsRow base 190 2 u (ts.length+1) (F++[z,rv]))(a:u.ownBlock=tv.ownBlock\/ ∃b,u.ownBlock=M b/\w.heap.size<=b)
  (t:Bl w base tv fv gv z x.1)(A:Bl w base tv fv gv rv x.2)(I:x.1.length<=8/\x.2.length<=1)(B:ts.length+1<=16):kM w' pb mb base E u fv gv bI (ts++[x]) fs gs σ:=by
 have g:=h.Q4;have i:=h.Sw;have C:=h.bs;have J:=k.size;obtain⟨c1,K,-⟩:=h.zm;obtain⟨c2,j,D⟩:=h.ny;obtain⟨c3,m,G⟩:=h.CR;have hS:∀b,base<=b->tv.ownBlock≠M b-> ¬(b=mb\/tv.ownBlock=M b):=λb d f e=>by
  grind
 have n:∀{v:Yx} {l:List UInt8},Bl w base tv fv gv v l->Bl w' base u fv gv v l:=λhb=>hb.on k (λb c=>hS b (hb.far b c).1 (hb.far b c).2.2.1) a (Yo U) (Yo U)
 have o:∀{c:Nat} {l:List _} {F:List Yx},nN w base tv fv gv c l F->nN w' base u fv gv c l F:=λr=>r.on k (λb d f _ _=>hS b d f) a (Yo U) (Yo U)
 have d:∀{v:Yx},(∀b,v.ownBlock=M b->b<w.heap.size/\tv.ownBlock≠M b)-> ∀b,u.ownBlock=M b->v.ownBlock≠M b:=by
  grind
 refine⟨h.st.off k (λe=>?_) (λb hb e=>?_),g,i,h.ne,h.bm,Y,hb,⟨_,by rw[Vn];exact s,(o q).rI p (n t) (n A) U U⟩,
  ⟨c2,k.own j (λb hb=>hS b (aK j b hb) (λe=>(h.tf b e).1 hb)),o D⟩,⟨c3,k.own m (λb hb=>hS b (aK m b hb) (λe=>(h.tf b e).2 hb)),G⟩,
  λb hb=>⟨d (λc f=>⟨(j.lt c f).2,λe=>(h.tf c e).1 f⟩) b hb,d (λc f=>⟨(m.lt c f).2,λe=>(h.tf c e).2 f⟩) b hb⟩,h.fg,Ve,?_,h.fl,h.fll,h.gl⟩
 .rcases e with e|e
  .exact h.ne e.symm
  grind[aK]
 .exact uV
 .intro y c;rcases VS.1 c with c|c
  .exact h.tll y c
  grind
def kM.acN{rv u1 u2:Yx}{x:List UInt8×List UInt8}(k:Kp (λb=>b=mb\/fv.ownBlock=M b) w w')(hb:w'.heap[mb]?=M (Yl #[tv,u,gv,V O bI] 149))
  (p:F.length=fs.length*4)(q:nN w base tv fv gv 4 fs F)(s:w'.ownsRow base 193 4 u (fs.length+1) (F++[z,rv,u1,u2]))(a:u.ownBlock=fv.ownBlock\/ ∃b,u.ownBlock=M b/\w.heap.size<=b)
  (t:Bl w base tv fv gv z x.1)(A:Bl w base tv fv gv rv x.2)(I:x.1.length<=8/\x.2.length<=1)(B:fs.length+1<=16):kM w' pb mb base E tv u gv bI ts (fs++[x]) gs σ:=by
 have g:=h.Q4;have i:=h.Sw;have C:=h.bs;have J:=k.size;obtain⟨c1,j,D⟩:=h.zm;obtain⟨c2,K,-⟩:=h.ny;obtain⟨c3,m,G⟩:=h.CR;have hS:∀b,base<=b->fv.ownBlock≠M b-> ¬(b=mb\/fv.ownBlock=M b):=λb d f e=>by
  grind
 have n:∀{v:Yx} {l:List UInt8},Bl w base tv fv gv v l->Bl w' base tv u gv v l:=λhb=>hb.on k (λb c=>hS b (hb.far b c).1 (hb.far b c).2.2.2.1) (Yo U) a (Yo U)
 have o:∀{c:Nat} {l:List _} {F:List Yx},nN w base tv fv gv c l F->nN w' base tv u gv c l F:=λr=>r.on k (λb d _ f _=>hS b d f) (Yo U) a (Yo U)
 have d:∀{v:Yx},(∀b,v.ownBlock=M b->b<w.heap.size/\fv.ownBlock≠M b)-> ∀b,u.ownBlock=M b->v.ownBlock≠M b:=by
  grind
 refine⟨h.st.off k (λe=>?_) (λb hb e=>?_),g,i,h.ne,h.bm,Y,hb,⟨c1,k.own j (λb hb=>hS b (aK j b hb) (h.tf b hb).1),o D⟩,⟨_,by rw[Vn];exact s,(o q).rI p (n t) (n A) U U⟩,
  ⟨c3,k.own m (λb hb=>hS b (aK m b hb) (λe=>h.fg b e hb)),G⟩,
  λb hb=>⟨λe=>d (λc f=>⟨(j.lt c f).2,(h.tf c f).1⟩) b e hb,(h.tf b hb).2⟩,λb hb=>d (λc f=>⟨(m.lt c f).2,λe=>h.fg c e f⟩) b hb,h.tl,h.tll,Ve,?_,h.gl⟩
 .rcases e with e|e
  .exact h.ne e.symm
  grind[aK]
 .exact uV
 .intro y c;rcases VS.1 c with c|c
  .exact h.fll y c
  grind
def kM.acO{x:UInt8×UInt8×Nat}(k:Kp (λb=>b=mb\/gv.ownBlock=M b) w w')(hb:w'.heap[mb]?=M (Yl #[tv,fv,u,V O bI] 149))
  (o:F.length=gs.length*3)(p:PG gs F)(y:w'.ownsRow base 198 3 u (gs.length+1) (F++[V Ys x.1.toNat,V Ys x.2.1.toNat,V Yr x.2.2]))(f:u.ownBlock=gv.ownBlock\/ ∃b,u.ownBlock=M b/\w.heap.size<=b)
  (z:gs.length+1<=8):kM w' pb mb base E tv fv u bI ts fs (gs++[x]) σ:=by
 have g:=h.Q4;have i:=h.Sw;have q:=h.bs;have A:=k.size;obtain⟨c1,j,s⟩:=h.zm;obtain⟨c2,m,t⟩:=h.ny;obtain⟨c3,B,-⟩:=h.CR;have hS:∀b,base<=b->gv.ownBlock≠M b-> ¬(b=mb\/gv.ownBlock=M b):=λb a c e=>by
  grind
 have n:∀{d:Nat} {l:List _} {F:List Yx},nN w base tv fv gv d l F->nN w' base tv fv u d l F:=λr=>r.on k (λb a _ _ c=>hS b a c) (Yo U) (Yo U) f
 have a:∀{v:Yx},(∀b,v.ownBlock=M b->b<w.heap.size/\gv.ownBlock≠M b)-> ∀b,v.ownBlock=M b->u.ownBlock≠M b:=by
  grind
 refine⟨h.st.off k (λe=>?_) (λb hb e=>?_),g,i,h.ne,h.bm,Y,hb,⟨c1,k.own j (λb hb=>hS b (aK j b hb) (h.tf b hb).2),n s⟩,⟨c2,k.own m (λb hb=>hS b (aK m b hb) (h.fg b hb)),n t⟩,⟨_,Ve,p.rI o⟩,
  λb hb=>⟨(h.tf b hb).1,a (λc d=>⟨(j.lt c d).2,(h.tf c d).2⟩) b hb⟩,λb hb=>a (λc d=>⟨(m.lt c d).2,h.fg c d⟩) b hb,h.tl,h.tll,h.fl,h.fll,Ve⟩
 .rcases e with e|e
  .exact h.ne e.symm
  grind[aK]
 .exact uV
def kM.mod:dy w pb mb base tv fv gv bI fs gs:=by
 have i:=h.Q4;have j:=h.Sw;obtain⟨c2,f,l⟩:=h.ny;obtain⟨c3,g,m⟩:=h.CR;refine⟨h.ne,h.az,⟨c2,f,λk x n=>?_⟩,λb a e=>cj (aK f b a),λe=>cj (aK f mb e),⟨λb a e=>cj (aK g b a),c3,aw.own g,m⟩,h.fg,h.fl,h.fll,h.gl⟩;obtain⟨o,p,q,r,c,d⟩:=l k x n;exact⟨o,p,q,r,c.row,λb a e=>cj ((c.far b a).1),d.row,λb a e=>cj ((d.far b a).1),λb a=>⟨λe=>(c.far b e).2.2.2.1 a,λe=>(d.far b e).2.2.2.1 a⟩,λb a=>by
  rcases a with a|a
  .exact⟨(c.far b a).1,(c.far b a).2.1⟩
  .exact⟨(d.far b a).1,(d.far b a).2.1⟩⟩
end
def aw.newRow(w:Yw)(a:Array Yx)(t:TypeId):aw (w.alloc (Yl a t)) (Q (M ⟨w.heap.size,0,H⟩) 1 1) a.size 1 a.toList:=
 ⟨Vc,Yp ⟨_,0,1,U,cQ,λk u b=>Vh⟩⟩
def rh{α:Type}(one:PS->α×PS)(n k:Nat)(l:List α)(σ:PS)(R:List α×PS):Prop:=(bn σ=Yj->pK one (n-k) l σ=R)/\(bn σ=Yk->R.2=σ)
theorem AP{c:Type}{one:PS->c×PS}{l:List c}{b:PS}(h:bn b=Yk):pK one a l b=(l,b):=by
 cases a with
 |zero=>rfl
 |succ a=>simp_all[pK]
def rh.start{b:Type}(one:PS->b×PS)(n:Nat)(a:PS):rh one n 0 [] a (pK one n [] a):=⟨λ_=>rfl,λh=>by rw[AP h]⟩
theorem rh.step{c:Type}{one:PS->c×PS}{l l':List c}{b:PS}{R:List c×PS}(h:rh one a N l b R)(g:N<a)(d:bn b=Yj)(i:bn (one b).2=Yj->l'=l++[(one b).1]):rh one a (N+1) l' (one b).2 R:=by
 have e:=h.1 d;rw[show a-N=(a - (N+1))+1 by omega,pK,Va Ve]at e;refine⟨λf=>Ve,λf=>?_⟩;grind[AP]
def rh.fW{c:Type}{one:PS->c×PS}{l:List c}{b:PS}{R:List c×PS}(h:rh one a N l b R)(d:bn b=Yk\/a<=N):R.2=b/\(bn b=Yj->R.1=l):=by
 cases e:bn b with
 |true=>exact⟨h.2 e,nofun⟩
 |false=>
  have f:=h.1 e;rcases d with d|d
  .grind
  .rw[show a-N=0 by omega,pK]at f;grind
def SA(E:PE):Nat->PS->PS
 |0,σ=>fS E σ
 |1,σ=>(cB E 1 1 1 (cB E 75 75 75 (cB E 84 84 84 σ).2).2).2
 |2,σ=>(cB E 1 1 1 (cB E 75 75 75 σ).2).2
 |3,σ=>(cB E 1 1 1 σ).2
 |_,σ=>σ
theorem mF{a b c:UInt8}{d:PS}(h:bn d=Yk):(cB A a b c d).2=d:=by
 cases d with
 |ok i=>cases h
 |error e=>grind[pJ]
def SB{a:PS}(h:bn a=Yk)(k:Nat):SA e k a=a:=by
 match k with
 |0=>show fS e a=a;grind[fS,mF]
 |1=>show(cB e 1 1 1 (cB e 75 75 75 (cB e 84 84 84 a).2).2).2=a;grind[mF]
 |2=>show(cB e 1 1 1 (cB e 75 75 75 a).2).2=a;grind[mF]
 |3=>show(cB e 1 1 1 a).2=a;rw[mF h]
 |k+4=>rfl
def uR:Nat->UInt8
 |0=>83
 |1=>84
 |2=>75
 |_=>1
def PH{b:PS}(c:a<4):SA e (a+1) (cB e (uR a) (uR a) (uR a) b).2=SA e a b:=by
 match a,c with
 |0,_=>rfl
 |1,_=>rfl
 |2,_=>rfl
 |3,_=>rfl
def LL:∃i z,Tryz.prog.info? 190=M i/\i.zero=M z/\i.size=2/\i.bytes=48/\z.cells.size=2:=nT Vf
def LN:∃i z,Tryz.prog.info? 193=M i/\i.zero=M z/\i.size=4/\i.bytes=96/\z.cells.size=4:=nT Vf
def E3:∃i z,Tryz.prog.info? 198=M i/\i.zero=M z/\i.size=3/\i.bytes=16/\z.cells.size=3:=nT Vf
theorem Bl.new{gv v:Yx}(d:W.ownsRow N T 1 v D.length (cw D))(e:a<=N)(f:∀b,u.ownBlock=M b->b<N)(g:∀b,z.ownBlock=M b->b<N)(h:∀b,gv.ownBlock=M b->b<N):Bl W a u z gv v D:=by
 refine⟨aw.own d,λb c=>?_⟩;obtain⟨i,j⟩:=d.lt b c;grind
def kM.abx{gv:Yx}{bI:Int}{d f:List (List UInt8×List UInt8)}{g:List (UInt8×UInt8×Nat)}{i:PS}(h:kM W a N o e u z gv bI d f g i):(∀b,u.ownBlock=M b->b<W.heap.size)/\(∀b,z.ownBlock=M b->b<W.heap.size)/\(∀b,gv.ownBlock=M b->b<W.heap.size):=by
 obtain⟨c1,j,-⟩:=h.zm;obtain⟨c2,k,-⟩:=h.ny;obtain⟨c3,l,-⟩:=h.CR;exact⟨λb c=>(j.lt b c).2,λb c=>(k.lt b c).2,λb c=>(l.lt b c).2⟩
def kM.acP{base:Nat}{gv:Yx}{bI:Int}{j m:List (List UInt8×List UInt8)}{q:List (UInt8×UInt8×Nat)}{s:PS}(h:kM W a N base A u z gv bI j m q s)(p:Int):kM (W.setCell ⟨N,3,H⟩ (V O p)) a N base A u z gv p j m q s:=by
 have g:=h.Sw;have k:Kp _ W (W.setCell ⟨N,3,H⟩ (V O p)):=(Kp.refl _ _).bK _ _;have E:=k.size;have t:=h.bs;obtain⟨c1,w,x⟩:=h.zm;obtain⟨c2,y,B⟩:=h.ny;obtain⟨c3,C,D⟩:=h.CR;have i:∀{e:TypeId} {c n:Nat} {v:Yx} {b:List Yx},W.ownsRow base e c v n b->(W.setCell _ _).ownsRow base e c v n b:=λo=>k.own o (λb f e=>by have:=aK o b f;grind[one])
 have n:∀{c:Nat} {l:List _} {d:List Yx},nN W base u z gv c l d->nN _ base u z gv c l d:=λr=>r.on k (λb f _ _ _ e=>by grind[one]) (Yo U) (Yo U) (Yo U)
 exact⟨h.st.off k (λe=>h.ne e.symm) (λb f e=>h.bm (by rw[f,show b=N from e])),h.Q4,g,h.ne,h.bm,Y,heap_setCell h.az _,⟨c1,i w,n x⟩,⟨c2,i y,n B⟩,⟨c3,i C,D⟩,h.tf,h.fg,h.tl,h.tll,h.fl,h.fll,h.gl⟩
def tJ{b:Type}{most:Int}{one:PS->b×PS}{a:PS}(h:bn (dm A most one a).2=Yj):bn a=false:=by
 cases a with
 |ok i=>rfl
 |error e=>grind[qH]
def U2{most:Int}{a:PS}(h:bn (uM e most a).2=Yj):bn a=false:=by
 grind[DH]
def yk(E:PE)(m:Nat)(a:PS):(uM E m a).1<=m:=by
 cases b:bn (uM E m a).2 with
 |false=>have:=uq E m a b;omega
 |true=>
  have:(uM E m a).1=0:=by
   unfold uM at b⊢;grind
  omega
def PI{w:World}{base:Nat}{σ:PS}(h:kM w a N base A (.slice none 0 0) (.slice none 0 0) (.slice none 0 0) 0 [] [] [] σ)(s3:base=w.heap.size)(hm:A.m=ptr N):
  df 117 #[ptr a] w (.tuple #[]) λw'=> ∃tv fv gv c p J T,kM w' a N base A tv fv gv c p J T (ju A σ).2/\(bn (ju A σ).2=false->(ju A σ).1.1=p/\(ju A σ).1.2.1=J/\(ju A σ).1.2.2.1=T/\((ju A σ).1.2.2.2:Int)=c)/\Kp (λb=>b=a\/b=N) w w':=by
 have c:=Z h;clear h;change Hid _ at s3;go_enter func117,ntmps117;go_upto_block 0 with fail
 go_cut [3] (λ_ wx=>dR wx a A (fS A σ)/\Kp (one a) w wx)
 case first =>
  go_wp2_with fail;go_loopw [3] (λi wr=> ∃(k:Nat) (g:PS),k<=4/\i=.int .i64 k/\dR wr a A g/\Kp (one a) w wr/\SA A k g=fS A σ) (λi _=>4 - (intOf i).toNat);case atStart=>exact⟨0,σ,Y,U,c.st,iR,U⟩
  case round=>
   obtain⟨k,g,hk,rfl,d,B,e⟩:=hrel;have m:=Z e;clear e;change Hid _ at d B;by_cases h0:k<4
   .by_cases L:bn g=true
    .go_wp2_with fail;refine(bz d).cJ ?_;go_wp2_with fail;go_meet;have e:=m.out;rw[SB L]at e;rw[<-e];exact⟨d,B⟩
    .simp only[VG]at L;go_wp2_with fail;refine(bz d).cJ ?_;go_wp2_with fail;have f:(#[83,84,75,1]:Array UInt8)[k]?=some (uR k):=by
      match k,h0 with
      |0,_=>rfl
      |1,_=>rfl
      |2,_=>rfl
      |3,_=>rfl
     have l:∀j,(({data:=#[83,84,75,1]}:ByteArray)[k]'j)=uR k:=λj=>by
      have n:=Xy.1 f;exact n.2
     obtain⟨S,j⟩:=bL (λw'=>Kp no wr w':World->Prop);have s:∀W,Kp no wr W->S W:=λW k=>by rw[j];exact k
     refine rj 10 11 (S) ?hS λhS=>?_
     case hS=>exact s _ fL
     refine tj 0 ?_;iterate 9 refine tn ?_
     refine ej 10 λK E=>?_
     refine sc (oZ (d.keep ((Kp.refl no _).drew) bW) (uR k) (uR k) (uR k)) ?_ (hargs:=by first |rfl |(simp only[l];rfl));rintro r z7⟨rfl,H2,H1⟩;refine⟨_,rfl,E _ _ ?_⟩;clear E K;refine dj ?_;have K6:=Z (((Kp.refl (one a) wr).drew).trans H1);clear H1 s j f l hS;change Hid _ at H2;go_wp2_with fail;go_roundw;case rel=>
      exact⟨k+1,_,Y,by go_num,H2,B.trans K6,(PH h0).trans m⟩
     case measure=>simp[intOf];omega
   .go_wp2_with fail;go_meet;have e:=m.out;rw[show k=4 by omega]at e;rw[<-e];exact⟨d,B⟩
 case rest=>
  rename World=>w2
  obtain⟨z3,K7⟩:=hcut;have K8:=Z (c.kp K7 z3);clear z3;change Hid _ at K7;obtain⟨mg,s9⟩:=bL (fS A σ);rw[<-s9]at K8;change Hid _ at s9;go_wp2_with fail;refine(kH K8.st 16).bw ?_;rintro z7⟨H2,H1⟩;have W0:(uM A 16 mg).1<=16:=yk A 16 mg;have W1:=Z (K8.kp H1 H2);have K6:=Z (K7.trans H1);obtain⟨nn,x0⟩:=bL (uM A 16 mg);rw[<-x0]at W1 W0⊢;clear H2 H1;change Hid _ at x0;obtain⟨R1,x1⟩:=bL (dm A 16 (iN A) mg);have h7:Hid (rh (iN A) nn.1 0 [] nn.2 R1):=Z (by rw[x1];unfold dm;rw[<-x0.out];exact rh.start _ _ _);change Hid _ at x1;go_upto_block 2 with fail
  go_cut [5,6,7] (λ_ _ _ wx=> ∃(tv:Value) (p:List (List UInt8×List UInt8)),kM wx a N base A tv (.slice none 0 0) (.slice none 0 0) 0 p [] [] R1.2/\(bn R1.2=false->R1.1=p)/\Kp (λb=>b=a\/b=N) w wx)
  case first =>
   go_wp2_with fail;go_loopw [5,6,7] (λi _ _ wr=> ∃(k:Nat) (g:PS) (tv:Value) (p:List (List UInt8×List UInt8)),k<=nn.1/\i=.int .i64 k/\kM wr a N base A tv (.slice none 0 0) (.slice none 0 0) 0 p [] [] g/\p.length<=k/\rh (iN A) nn.1 k p g R1/\Kp (λb=>b=a\/b=N) w wr) (λi _ _ _=>nn.1 - (intOf i).toNat);case atStart=>exact⟨0,nn.2,_,[],Y,U,W1,cQ,h7,K6.mono (λb _ h=>.inl h)⟩
   case round=>
    obtain⟨k,g,tv,p,hk,rfl,d,H3,l,B⟩:=hrel;have HT:=Z l;clear l;change Hid _ at d B;by_cases h0:k<nn.1
    .by_cases L:bn g=true
     .go_wp2_with fail;refine(bz d.st).cJ ?_;go_wp2_with fail;go_meet;obtain⟨q1,q2⟩:=HT.fW (.inl L);exact⟨tv,p,by rw[q1];exact d,λe=>q2 (by rw[<-q1];exact e),B⟩
     .simp only[VG]at L;go_wp2_with fail;refine(bz d.st).cJ ?_;go_wp2_with fail;have W2:=d.st.lt;have W3:=d.bs;have W4:=d.Sw;have ka:Kp no wr (wr.alloc (.cells #[.slice none 0 0,.slice none 0 0] 190)):=oO;have k6:=ai wr (.cells #[.slice none 0 0,.slice none 0 0] 190);have h8: ¬one a wr.heap.size:=λe=>by unfold one at e;omega
      generalize wr.alloc (.cells #[.slice none 0 0,.slice none 0 0] 190)=wa at *;have W5:=au k6;refine(kH (d.st.keep ka bW) 8).bw ?_;rintro wb⟨m,kb⟩;have H6:(uM A 8 g).1<=8:=yk A 8 g;obtain⟨u1,k9⟩:=bL (uM A 8 g);rw[<-k9]at m H6⊢;have HB:=Z m;have K3:=kb.size;have H7:=Z (kb.az k6 h8);clear m k6;change Hid _ at k9;go_wp2_with fail;refine(uo HB u1.1 Y).mono ?_;rintro e wc⟨v1,rfl,k8,hc,kc⟩;have x7:(dF A u1.1 u1.2).1.length<=8:=by
       have:=uN A u1.1 [] u1.2;simp only[Wp]at this;show(eY A u1.1 [] u1.2).1.length<=8
       omega
      obtain⟨l1,s1⟩:=bL (dF A u1.1 u1.2);rw[<-s1]at k8 hc x7;have K4:=kc.size;have s2:=kc.az H7 h8;obtain⟨H8,H9⟩:=ae s2;have K0:=Z ((ka.any (S:=one a)).trans (kb.trans kc));obtain⟨f,t,rfl⟩:=aA k8;have h9:∀b,B7 A.b A.data=some b-> ¬one wr.heap.size b:=λb m e=>by have:=d.st.low b m;unfold one at e;omega
      clear ka kb kc;change Hid _ at hc s2 h9;replace k8:=Z k8;change Hid _ at s1;go_wp2_with fail;have hd:=hc.off (S:=one wr.heap.size) ((Kp.refl _ wc).bK 0 (.slice f l1.1.length t)) (λe=>by unfold one at e;omega) h9;have k0:=heap_setCell (o:=0) s2 (.slice f l1.1.length t);have s5:Kp (λb=>b=a\/b=wr.heap.size) wc (wc.setCell ⟨wr.heap.size,0,none⟩ (.slice f l1.1.length t)):=(Kp.refl _ wc).bE (.inr U) _ _;have e2:=Z (K0.cq cQ 0 (.slice f l1.1.length t));generalize wc.setCell ⟨wr.heap.size,0,none⟩ (.slice f l1.1.length t)=wd at *;have K5:=s5.size;refine(kH hd 1).bw ?_;rintro we⟨he,ke⟩;have K1:(uM A 1 l1.2).1<=1:=yk A 1 l1.2;obtain⟨u2,s6⟩:=bL (uM A 1 l1.2);rw[<-s6]at he K1⊢;have K9:=ke.size;have K2:=Z (ke.az k0 h8);clear k0 hd H8 H9;change Hid _ at s6 he;go_wp2_with fail;refine(uo he u2.1 Y).mono ?_;rintro e wf⟨v2,rfl,w0,hf,kf⟩;have x8:(dF A u2.1 u2.2).1.length<=1:=by
       have:=uN A u2.1 [] u2.2;simp only[Wp]at this;show(eY A u2.1 [] u2.2).1.length<=1
       omega
      obtain⟨l2,s7⟩:=bL (dF A u2.1 u2.2);rw[<-s7]at w0 hf x8;have W7:=kf.size;have h1:=kf.az K2 h8;obtain⟨x2,x3⟩:=ae h1;have x9:Kp (λb=>b=a\/b=wr.heap.size) wc wf:=s5.trans ((ke.trans kf).mono (λb _ h=>.inl h));have x4:=Z (e2.trans (ke.trans kf));obtain⟨y,z,rfl⟩:=aA w0;clear ke kf s5;change Hid _ at hf h1 x9;replace w0:=Z w0;change Hid _ at s7;go_wp2_with fail;have hg:=hf.off (S:=one wr.heap.size) ((Kp.refl _ wf).bK 1 (.slice y l2.1.length z)) (λe=>by unfold one at e;omega) h9;have e3:=heap_setCell (o:=1) h1 (.slice y l2.1.length z);have s0:Kp (λb=>b=a\/b=wr.heap.size) wf (wf.setCell ⟨wr.heap.size,1,none⟩ (.slice y l2.1.length z)):=(Kp.refl _ wf).bE (.inr U) _ _;have h3:=x4.cq cQ 1 (.slice y l2.1.length z);generalize wf.setCell ⟨wr.heap.size,1,none⟩ (.slice y l2.1.length z)=X at *;have hG:=d.kp h3 hg;have W6:=s0.size;obtain⟨w1,x5,s4⟩:=d.abx;have w3:Bl X base tv (.slice none 0 0) (.slice none 0 0) (.slice f l1.1.length t) l1.1:=Bl.new ((x9.trans s0).own k8 (λb m e=>cj (aK k8 b m))) Y (λb m=>cj (w1 b m)) (λb m=>by cases m) (λb m=>by cases m);have w5:Bl X base tv (.slice none 0 0) (.slice none 0 0) (.slice y l2.1.length z) l2.1:=Bl.new (s0.own w0 (λb m e=>cj (aK w0 b m))) Y (λb m=>cj (w1 b m)) (λb m=>by cases m) (λb m=>by cases m);have HG:=Z hG;have x6:=Z e3;obtain⟨cs,D,h2⟩:=hG.zm;have e0:=Z D;have e4:=D.1;obtain⟨ig,eg,pg,H4,k1,-,-⟩:=hG.st.dT;obtain⟨w7,w9,rfl⟩:=aA D;obtain⟨j1,z4,e5,e6,e7,e8,e9⟩:=LL;obtain⟨S,j⟩:=bL (λw'=>(∀q,w'.cell? ⟨a,q,none⟩=#[ptr N,A.b,.int .i64 ig,.int .i64 (A.en:Int),.int .i64 eg,.int .i64 pg,A.jG,.int .i64 A.d][q]?)/\(∀q,w'.cell? ⟨N,q,none⟩=#[.slice w7 p.length w9,.slice none 0 0,.slice none 0 0,.int .i64 0][q]?)/\(∀q,w'.frozen? ⟨N,q,none⟩=false)/\(∀q,w'.cell? ⟨wr.heap.size,q,none⟩=#[.slice f l1.1.length t,.slice y l2.1.length z][q]?):World->Prop);have s:∀W,Kp (λb=>(Value.slice w7 p.length w9).ownBlock=some b) X W->S W:=λW k=>by
       rw[j];have h4:=k.az HG.az (λe=>cj (aK e0 N e));refine⟨by rw[<-hm];exact(ae (k.az k1 (λe=>rq (aK e0 a e) HG.Q4))).1,(ae h4).1,(ae h4).2,(ae (k.az x6 (λe=>cj (w1 _ e)))).1⟩
      have k7:=Z j;clear hG e3 hg s0 D k1 j w1 x5 s4 x2 x3;change Hid _ at s;replace h2:=Z h2;replace h3:=Z h3;change Hid _ at w3 w5;refine rj 16 17 (S) ?hS λhS=>?_
      case hS=>exact s _ fL
      have j:=k7.out;subst j;refine tj 0 ?_;iterate 11 refine tn ?_
      refine oj 12 λK E=>?_
      go_simp;have C:Kp no X ((X.alloc (.cells #[.slice f l1.1.length t,.slice y l2.1.length z] 190)).drew):=MV;have k2:aw ((X.alloc (.cells #[.slice f l1.1.length t,.slice y l2.1.length z] 190)).drew) (.slice (some ⟨X.heap.size,0,none⟩) 1 1) 2 1 [.slice f l1.1.length t,.slice y l2.1.length z]:=(aw.newRow X #[.slice f l1.1.length t,.slice y l2.1.length z] 190).kp ((Kp.refl no _).drew) bW;generalize(X.alloc (.cells #[.slice f l1.1.length t,.slice y l2.1.length z] 190)).drew=wh at *;refine E _ _ (s _ C.any) (λhS=>?_);clear E K;refine oj 13 λK E=>?_
      refine bJ _ Vg _ _ _ Vg base 190 j1 _ 2 48 underlying145 e5 e6 e7 e8 e9 Y _ p.length cs Vg (C.own e0 bW) (.slice (some ⟨X.heap.size,0,none⟩) 1 1) 1 [.slice f l1.1.length t,.slice y l2.1.length z] Vg k2 ?t2 ?t3 ?t4 ?t5 ?_;case t2=>intro u hu;simp at hu;rcases hu with rfl |rfl <;>rfl
      case t3=>unfold maxLen;omega
      case t4=>omega
      case t5=>have:=C.size;omega
      intro H5 F P h5 h6;have R:Kp (λb=>(Value.slice w7 p.length w9).ownBlock=some b) X F:=(C.any).bS h5 (λb m=>.inl m);refine E _ _ (s _ R) (λhS=>?_);clear E K;obtain⟨G,I,rfl⟩:=aA P;refine tj 14 ?_;refine tj 15 ?_;refine ej 16 λK E=>?_
      go_simp;refine E _ _ ?_;clear E K;refine dj ?_;have H0:∀{u:Value} {n:Nat} {xs:List Value},X.ownsRow base 190 2 u n xs->u.ownBlock≠some N:=λo e=>cj (aK o N e)
      have kF:Kp (λb=>b=N\/(Value.slice w7 p.length w9).ownBlock=some b) X (F.setCell ⟨N,0,none⟩ (.slice G (p.length+1) I)):=(R.mono (λb _ h=>.inr h)).bE (.inl U) _ _;have n:=heap_setCell (o:=0) (R.az HG.az (H0 e0)) (.slice G (p.length+1) I);have k3:=((Kp.refl (one N) F).bK 0 (.slice G (p.length+1) I)).own P (λb m e=>by have:=aK P b m;unfold one at e;omega);have k4:=HG.acM (x:=(l1.1,l2.1)) kF n e4 h2 k3 (by rcases h6 with e|e;exact .inl e;exact .inr ⟨_,e,C.size⟩) w3 w5 ⟨x7,x8⟩ Y;have s8:iN A g=((l1.1,l2.1),l2.2):=by unfold iN ld;rw[<-k9.out,<-s1.out,<-s6.out,<-s7.out]
      have l:=HT.step (l':=p++[(l1.1,l2.1)]) h0 L (λ_=>by rw[s8]);rw[s8]at l;have k5:Kp (λb=>b=a\/b=N) w (F.setCell ⟨N,0,none⟩ (.slice G (p.length+1) I)):=(B.trans (h3.mono (λb _ h=>.inl h))).comp kF bW (λb m h=>by
       rcases h with h|h
       .exact .inr h
       .have :=aK e0 b h;have:=s3.out;omega)
      generalize F.setCell ⟨N,0,none⟩ (.slice G (p.length+1) I)=wz at *;clear n k3 kF s8 h6 h5 P R hS k2 C H0;change Hid _ at k5;replace l:=Z l;change Hid _ at k4;go_wp2_with fail;go_roundw;case rel=>
       exact⟨k+1,l2.2,_,p++[(l1.1,l2.1)],Y,by go_num,k4,Vd,l,k5⟩
      case measure=>simp[intOf];omega
    .go_wp2_with fail;go_meet;obtain⟨q1,q2⟩:=HT.fW (.inr Y);exact⟨tv,p,by rw[q1];exact d,λe=>q2 (by rw[<-q1];exact e),B⟩
  case rest=>
   rename World=>w4
   obtain⟨tv,p,K9,x7,W7⟩:=hcut;clear h7 W1 K6 K8 K7;change Hid _ at K9 x7 W7;go_wp2_with fail;refine(kH K9.st 16).bw ?_;rintro p8⟨z5,W8⟩;have W9:(uM A 16 R1.2).1<=16:=yk A 16 R1.2;have y0:=Z (K9.kp W8 z5);have z6:=Z (W7.trans (W8.mono (λb _ h=>.inl h)));obtain⟨n2,s5⟩:=bL (uM A 16 R1.2);rw[<-s5]at y0 W9⊢;clear z5 W8;change Hid _ at s5;obtain⟨R2,s6⟩:=bL (dm A 16 (rf A R1.1) R1.2);have h7:Hid (rh (rf A R1.1) n2.1 0 [] n2.2 R2):=Z (by rw[s6];unfold dm;rw[<-s5.out];exact rh.start _ _ _);change Hid _ at s6;go_upto_block 4 with fail
   go_cut [8,9] (λ_ _ wx=> ∃(fv:Value) (J:List (List UInt8×List UInt8)),kM wx a N base A tv fv (.slice none 0 0) 0 p J [] R2.2/\(bn R2.2=false->R2.1=J)/\Kp (λb=>b=a\/b=N) w wx)
   case first =>
    go_wp2_with fail;go_loopw [8,9] (λi _ wr=> ∃(k:Nat) (g:PS) (fv:Value) (J:List (List UInt8×List UInt8)),k<=n2.1/\i=.int .i64 k/\kM wr a N base A tv fv (.slice none 0 0) 0 p J [] g/\J.length<=k/\rh (rf A R1.1) n2.1 k J g R2/\Kp (λb=>b=a\/b=N) w wr) (λi _ _=>n2.1 - (intOf i).toNat);case atStart=>exact⟨0,n2.2,_,[],Y,U,y0,cQ,h7,z6⟩
    case round=>
     obtain⟨k,g,fv,J,hk,rfl,d,H3,l,B⟩:=hrel;have HT:=Z l;clear l;change Hid _ at d B;by_cases h0:k<n2.1
     .by_cases L:bn g=true
      .go_wp2_with fail;refine(bz d.st).cJ ?_;go_wp2_with fail;go_meet;obtain⟨q1,q2⟩:=HT.fW (.inl L);exact⟨fv,J,by rw[q1];exact d,λe=>q2 (by rw[<-q1];exact e),B⟩
      .simp only[VG]at L;have y1:bn R1.2=false:=by
        cases hq:bn R1.2 with
        |false=>rfl
        |true=>
         exfalso
         have k8:=s5.out;rw[DH hq]at k8;rw[k8]at h0;exact absurd h0 (Wo _)
       have y2:=Z (x7 y1);go_wp2_with fail;refine(bz d.st).cJ ?_;obtain⟨i1,e1,p1,z8,s7,-,-⟩:=d.st.dT;obtain⟨H6,y3⟩:=ae s7;obtain⟨H7,y4⟩:=ae d.az;obtain⟨y5,k8,s0⟩:=d.zm;obtain⟨w7,w9,H8⟩:=aA k8;have z9:=d.tl;have y6:wrap64 ((p.length:Int)-1)=(p.length:Int)-1:=by unfold wrap64;omega
       rw[hm]at H6;rw[H8]at H7;have p0:=Z k8;have p2:=Z s0;clear s7 k8 s0;change Hid _ at H8;go_wp2_with fail;refine(kH d.st ((p.length:Int)-1)).bw ?_;rintro wb⟨m,kb⟩;have x8:bn (uM A ((p.length:Int)-1) g).2=false->((uM A ((p.length:Int)-1) g).1:Int)<=(p.length:Int)-1:=uq A ((p.length:Int)-1) g;have w0:rf A R1.1 g=(p.getD (uM A ((p.length:Int)-1) g).1 ([],[]),(uM A ((p.length:Int)-1) g).2):=by unfold rf;rw[y2.out]
       obtain⟨u1,k9⟩:=bL (uM A ((p.length:Int)-1) g);rw[<-k9]at m x8 w0⊢;have HG:=Z (d.kp kb m);clear k9 m H6 y3 H7 y4 y6;change Hid _ at w0;replace kb:=Z kb;by_cases x9:bn u1.2=true
       .go_wp2_with fail;refine(bz HG.st).cJ ?_;go_wp2_with fail;go_roundw;case rel=>
         have l:=HT.step (l':=J) h0 L (λe=>by rw[w0.out]at e;simp only at e;rw[x9]at e;cases e);rw[w0.out]at l;exact⟨k+1,u1.2,fv,J,Y,by go_num,HG,Y,l,B.trans (kb.mono (λb _ h=>.inl h))⟩
        case measure=>simp[intOf];omega
       .simp only[VG]at x9;have p3:=x8 x9;have y7:u1.1<p.length:=Y
        clear x8;go_wp2_with fail;refine(bz HG.st).cJ ?_;go_wp2_with fail;obtain⟨y5,k8,s0⟩:=HG.zm;obtain⟨x,hx⟩:∃x,p[u1.1]?=some x:=⟨_,Vj y7⟩;obtain⟨pv,rv,H9,K0,w3,w5⟩:=s0 u1.1 x hx;obtain⟨aT,oT,cT,e0,_,K1⟩:=(aw.own k8).get H9;obtain⟨p4,p5,p6,K2,_,H0⟩:=(aw.own k8).get K0;rw[e0]at K2;cases K2;rw[<-VR]at H0;have K3:p.getD u1.1 ([],[])=x:=by rw[Vl,hx];rfl
        have y8:=HG.tll x (Vw hx);obtain⟨cs,D,h2⟩:=HG.ny;have e4:=D.1;obtain⟨K4,K5,s8⟩:=aA D;obtain⟨ig,eg,pg,H4,k1,-,-⟩:=HG.st.dT;obtain⟨f,t,y9,-⟩:=w3.row.aJ;obtain⟨y,z,z0,-⟩:=w5.row.aJ;subst y9 z0;obtain⟨j1,z4,e5,e6,e7,e8,e9⟩:=LN;have z1:=HG.Q4;have p7:=HG.Sw;have s1:∀b,fv.ownBlock=some b->base<=b:=aK D;have h1:fv.ownBlock≠some aT:=λe=>(HG.tf aT (by rw[e0];rfl)).1 e
        obtain⟨S,j⟩:=bL (λw'=>(∀q,w'.cell? ⟨a,q,none⟩=#[ptr N,A.b,.int .i64 ig,.int .i64 (A.en:Int),.int .i64 eg,.int .i64 pg,A.jG,.int .i64 A.d][q]?)/\(∀q,w'.cell? ⟨N,q,none⟩=#[.slice (some ⟨aT,oT,none⟩) p.length cT,.slice K4 J.length K5,.slice none 0 0,.int .i64 0][q]?)/\(∀q,w'.frozen? ⟨N,q,none⟩=false)/\w'.cell? ⟨aT,oT+u1.1*2,none⟩=some (.slice f x.1.length t)/\w'.cell? ⟨aT,oT+u1.1*2+1,none⟩=some (.slice y x.2.length z):World->Prop);have s:∀W,Kp (λb=>fv.ownBlock=some b) wb W->S W:=λW k=>by
         rw[j];have h4:=k.az HG.az (λe=>cj (s1 N e));rw[e0,s8]at h4;refine⟨by rw[<-hm];exact(ae (k.az k1 (λe=>cj (s1 a e)))).1,(ae h4).1,(ae h4).2,k.cell K1 (λe=>h1 e),k.cell H0 (λe=>h1 e)⟩
        have k7:=Z j;clear j k8 s0 k1 H9 K0 K1 H0 e0 hx;change Hid _ at w3 w5 s8 K3;replace h2:=Z h2;replace D:=Z D;change Hid _ at s;refine rj 26 27 (S) ?hS λhS=>?_
        case hS=>exact s _ fL
        have j:=k7.out;subst j;refine tj 0 ?_;iterate 21 refine tn ?_
        refine oj 22 λK E=>?_
        go_simp;have C:Kp no wb ((wb.alloc (.cells #[.slice f x.1.length t,.slice y x.2.length z,.slice none 0 0,.slice none 0 0] 193)).drew):=MV;have k2:aw ((wb.alloc (.cells #[.slice f x.1.length t,.slice y x.2.length z,.slice none 0 0,.slice none 0 0] 193)).drew) (.slice (some ⟨wb.heap.size,0,none⟩) 1 1) 4 1 [.slice f x.1.length t,.slice y x.2.length z,.slice none 0 0,.slice none 0 0]:=(aw.newRow wb #[.slice f x.1.length t,.slice y x.2.length z,.slice none 0 0,.slice none 0 0] 193).kp ((Kp.refl no _).drew) bW;generalize(wb.alloc (.cells #[.slice f x.1.length t,.slice y x.2.length z,.slice none 0 0,.slice none 0 0] 193)).drew=wh at *;have z2:J.length+1<=16:=Y
        have s2:wb.ownsRow base 193 4 (.slice K4 J.length K5) J.length cs:=by rw[<-s8.out];exact D
        refine E _ _ (s _ C.any) (λhS=>?_);clear E K;refine oj 23 λK E=>?_
        refine bJ _ Vg _ _ _ Vg base 193 j1 _ 4 96 underlying146 e5 e6 e7 e8 e9 Y _ J.length cs Vg (C.own s2 bW) (.slice (some ⟨wb.heap.size,0,none⟩) 1 1) 1 [.slice f x.1.length t,.slice y x.2.length z,.slice none 0 0,.slice none 0 0] Vg k2 ?f2 ?f3 ?f4 ?f5 ?_;case f2=>intro u hu;simp at hu;rcases hu with rfl |rfl |rfl <;>rfl
        case f3=>unfold maxLen;omega
        case f4=>omega
        case f5=>have:=C.size;have:=HG.bs;omega
        intro H5 F P h5 h6;rw[<-s8.out]at h5 h6;have R:Kp (λb=>fv.ownBlock=some b) wb F:=(C.any).bS h5 (λb m=>.inl m);refine E _ _ (s _ R) (λhS=>?_);clear E K;obtain⟨G,I,rfl⟩:=aA P;refine tj 24 ?_;refine tj 25 ?_;refine ej 26 λK E=>?_
        go_simp;refine E _ _ ?_;clear E K;refine dj ?_;have kF:Kp (λb=>b=N\/fv.ownBlock=some b) wb (F.setCell ⟨N,1,none⟩ (.slice G (J.length+1) I)):=(R.mono (λb _ h=>.inr h)).bE (.inl U) _ _;have n:=heap_setCell (o:=1) (R.az HG.az (λe=>cj (s1 N e))) (.slice G (J.length+1) I);have k3:=((Kp.refl (one N) F).bK 1 (.slice G (J.length+1) I)).own P (λb m e=>by have:=aK P b m;unfold one at e;omega);have k4:=HG.acN (x:=x) kF n e4 h2 k3 (by rcases h6 with e|e;exact .inl e;exact .inr ⟨_,e,C.size⟩) w3 w5 y8 z2;have l:=HT.step (l':=J++[x]) h0 L (λ_=>by rw[w0.out,K3.out]);rw[w0.out]at l;have k5:Kp (λb=>b=a\/b=N) w (F.setCell ⟨N,1,none⟩ (.slice G (J.length+1) I)):=(B.trans (kb.mono (λb _ h=>.inl h))).comp kF bW (λb m h=>by
         rcases h with h|h
         .exact .inr h
         .have :=s1 b h;have:=s3.out;omega)
        generalize F.setCell ⟨N,1,none⟩ (.slice G (J.length+1) I)=wz at *;clear n k3 kF h6 h5 P R hS k2 C s2 s1 h1;change Hid _ at k5;replace l:=Z l;change Hid _ at k4;go_wp2_with fail;go_roundw;case rel=>
         exact⟨k+1,u1.2,_,J++[x],Y,by go_num,k4,Vd,l,k5⟩
        case measure=>simp[intOf];omega
     .go_wp2_with fail;go_meet;obtain⟨q1,q2⟩:=HT.fW (.inr Y);exact⟨fv,J,by rw[q1];exact d,λe=>q2 (by rw[<-q1];exact e),B⟩
   case rest=>
    rename World=>w6
    obtain⟨fv,J,s8,w5,x8⟩:=hcut;clear h7 y0 z6 K9 W7;change Hid _ at s8 w5 x8;go_wp2_with fail;refine(kH s8.st 8).bw ?_;rintro y2⟨K4,x9⟩;have H0:(uM A 8 R2.2).1<=8:=yk A 8 R2.2;have H7:=Z (s8.kp x9 K4);have K5:=Z (x8.trans (x9.mono (λb _ h=>.inl h)));obtain⟨n3,k9⟩:=bL (uM A 8 R2.2);rw[<-k9]at H7 H0⊢;clear K4 x9;change Hid _ at k9;obtain⟨y,z⟩:=bL (dm A 8 (lf A) R2.2);have h7:Hid (rh (lf A) n3.1 0 [] n3.2 y):=Z (by rw[z];unfold dm;rw[<-k9.out];exact rh.start _ _ _);change Hid _ at z;go_upto_block 6 with fail
    go_cut [10,11] (λ_ _ wx=> ∃(gv:Value) (T:List (UInt8×UInt8×Nat)),kM wx a N base A tv fv gv 0 p J T y.2/\(bn y.2=false->y.1=T)/\Kp (λb=>b=a\/b=N) w wx)
    case first =>
     go_wp2_with fail;go_loopw [10,11] (λi _ wr=> ∃(k:Nat) (g:PS) (gv:Value) (T:List (UInt8×UInt8×Nat)),k<=n3.1/\i=.int .i64 k/\kM wr a N base A tv fv gv 0 p J T g/\T.length<=k/\rh (lf A) n3.1 k T g y/\Kp (λb=>b=a\/b=N) w wr) (λi _ _=>n3.1 - (intOf i).toNat);case atStart=>exact⟨0,n3.2,_,[],Y,U,H7,cQ,h7,K5⟩
     case round=>
      obtain⟨k,g,gv,T,hk,rfl,d,H3,l,B⟩:=hrel;have HT:=Z l;clear l;change Hid _ at d B;by_cases h0:k<n3.1
      .by_cases L:bn g=true
       .go_wp2_with fail;refine(bz d.st).cJ ?_;go_wp2_with fail;go_meet;obtain⟨q1,q2⟩:=HT.fW (.inl L);exact⟨gv,T,by rw[q1];exact d,λe=>q2 (by rw[<-q1];exact e),B⟩
       .simp only[VG]at L;go_wp2_with fail;refine(bz d.st).cJ ?_;go_wp2_with fail;have W2:=d.st.lt;have W3:=d.bs;have W4:=d.Sw;have ka:Kp no wr (wr.alloc (.cells #[.int .u8 0,.int .u8 0,.int .u64 0] 198)):=oO;have k6:=ai wr (.cells #[.int .u8 0,.int .u8 0,.int .u64 0] 198);have h8: ¬one a wr.heap.size:=λe=>by unfold one at e;omega
        generalize wr.alloc (.cells #[.int .u8 0,.int .u8 0,.int .u64 0] 198)=wa at *;have W5:=au k6;refine(oZ (d.st.keep ka bW) 127 126 126).bw ?_;rintro wb⟨m,kb⟩;obtain⟨t,ht⟩:=bL (cB A 127 126 126 g);rw[<-ht]at m⊢;have HB:=Z m;have w0:=kb.az k6 h8;obtain⟨H6,H8⟩:=ae w0;have H9:=Z ((ka.any (S:=one a)).trans kb);have h9:∀b,B7 A.b A.data=some b-> ¬one wr.heap.size b:=λb m e=>by have:=d.st.low b m;unfold one at e;omega
        clear m k6 ka kb;change Hid _ at ht w0 h9;go_wp2_with fail;have hd:=HB.off (S:=one wr.heap.size) ((Kp.refl _ wb).bK 0 (.int .u8 t.1.toNat)) (λe=>by unfold one at e;omega) h9;have k0:=heap_setCell (o:=0) w0 (.int .u8 t.1.toNat);have e2:=Z (H9.cq cQ 0 (.int .u8 t.1.toNat));generalize wb.setCell ⟨wr.heap.size,0,none⟩ (.int .u8 t.1.toNat)=wd at *;refine(oZ hd 0 1 1).bw ?_;rintro we⟨he,ke⟩;obtain⟨f,hf⟩:=bL (cB A 0 1 1 t.2);rw[<-hf]at he⊢;have K0:=Z hf;have w3:=ke.az k0 h8;obtain⟨K1,K2⟩:=ae w3;have K3:=Z (e2.trans ke);clear hf k0 hd H6 H8 ke;change Hid _ at he w3;go_wp2_with fail;have hd:=he.off (S:=one wr.heap.size) ((Kp.refl _ we).bK 1 (.int .u8 f.1.toNat)) (λe=>by unfold one at e;omega) h9;have k0:=heap_setCell (o:=1) w3 (.int .u8 f.1.toNat);have e2:=Z (K3.cq cQ 1 (.int .u8 f.1.toNat));generalize we.setCell ⟨wr.heap.size,1,none⟩ (.int .u8 f.1.toNat)=y1 at *;refine(jI hd t.1).bw ?_;rintro wf⟨hf,kf⟩;obtain⟨v,hv⟩:=bL (aO A t.1 f.2);rw[<-hv]at hf⊢;have h1:=kf.az k0 h8;obtain⟨x2,x3⟩:=ae h1;have x4:=Z (e2.trans kf);clear k0 hd K1 K2 kf;change Hid _ at hf h1;replace hv:=Z hv;go_wp2_with fail;have hg:=hf.off (S:=one wr.heap.size) ((Kp.refl _ wf).bK 2 (.int .u64 v.1)) (λe=>by unfold one at e;omega) h9;have e3:=heap_setCell (o:=2) h1 (.int .u64 v.1);have h3:=x4.cq cQ 2 (.int .u64 v.1);generalize wf.setCell ⟨wr.heap.size,2,none⟩ (.int .u64 v.1)=X at *;have hG:=d.kp h3 hg;have W6:=h3.size;obtain⟨w1,x5,s4⟩:=d.abx;have HG:=Z hG;have x6:=Z e3;obtain⟨cs,D,h2⟩:=hG.CR;have e4:=D.1;have i:∀b,gv.ownBlock=some b->base<=b:=aK D;have z1:=d.Q4;obtain⟨ig,eg,pg,H4,k1,-,-⟩:=hG.st.dT;obtain⟨s0,s1,k8⟩:=aA D;obtain⟨w7,w9,e0⟩:=aA d.zm.choose_spec.1;obtain⟨j1,z4,e5,e6,e7,e8,e9⟩:=E3;obtain⟨S,j⟩:=bL (λw'=>(∀q,w'.cell? ⟨a,q,none⟩=#[ptr N,A.b,.int .i64 ig,.int .i64 (A.en:Int),.int .i64 eg,.int .i64 pg,A.jG,.int .i64 A.d][q]?)/\(∀q,w'.cell? ⟨N,q,none⟩=#[tv,fv,.slice s0 T.length s1,.int .i64 0][q]?)/\(∀q,w'.frozen? ⟨N,q,none⟩=false)/\(∀q,w'.cell? ⟨wr.heap.size,q,none⟩=#[.int .u8 t.1.toNat,.int .u8 f.1.toNat,.int .u64 v.1][q]?):World->Prop);have s:∀W,Kp (λb=>gv.ownBlock=some b) X W->S W:=λW k=>by
         rw[j];have h4:=k.az HG.az (λe=>cj (i N e));rw[k8]at h4;refine⟨by rw[<-hm];exact(ae (k.az k1 (λe=>cj (i a e)))).1,(ae h4).1,(ae h4).2,(ae (k.az x6 (λe=>cj (s4 _ e)))).1⟩
        have k7:=Z j;clear hG e3 hg k1 j w1 x5 s4 x2 x3 e0;change Hid _ at s k8;replace h2:=Z h2;replace D:=Z D;replace h3:=Z h3;refine rj 16 17 (S) ?hS λhS=>?_
        case hS=>exact s _ fL
        have j:=k7.out;subst j;refine tj 0 ?_;iterate 11 refine tn ?_
        refine oj 12 λK E=>?_
        go_simp;have C:Kp no X ((X.alloc (.cells #[.int .u8 t.1.toNat,.int .u8 f.1.toNat,.int .u64 v.1] 198)).drew):=MV;have k2:aw ((X.alloc (.cells #[.int .u8 t.1.toNat,.int .u8 f.1.toNat,.int .u64 v.1] 198)).drew) (.slice (some ⟨X.heap.size,0,none⟩) 1 1) 3 1 [.int .u8 t.1.toNat,.int .u8 f.1.toNat,.int .u64 v.1]:=(aw.newRow X #[.int .u8 t.1.toNat,.int .u8 f.1.toNat,.int .u64 v.1] 198).kp ((Kp.refl no _).drew) bW;generalize(X.alloc (.cells #[.int .u8 t.1.toNat,.int .u8 f.1.toNat,.int .u64 v.1] 198)).drew=wh at *;have s2:X.ownsRow base 198 3 (.slice s0 T.length s1) T.length cs:=by rw[<-k8.out];exact D
        refine E _ _ (s _ C.any) (λhS=>?_);clear E K;refine oj 13 λK E=>?_
        refine bJ _ Vg _ _ _ Vg base 198 j1 _ 3 16 underlying147 e5 e6 e7 e8 e9 Y _ T.length cs Vg (C.own s2 bW) (.slice (some ⟨X.heap.size,0,none⟩) 1 1) 1 [.int .u8 t.1.toNat,.int .u8 f.1.toNat,.int .u64 v.1] Vg k2 ?g2 ?g3 ?g4 ?g5 ?_;case g2=>intro u hu;simp at hu;rcases hu with rfl |rfl |rfl <;>rfl
        case g3=>unfold maxLen;omega
        case g4=>omega
        case g5=>have:=C.size;omega
        intro H5 F P h5 h6;rw[<-k8.out]at h5 h6;have R:Kp (λb=>gv.ownBlock=some b) X F:=(C.any).bS h5 (λb m=>.inl m);refine E _ _ (s _ R) (λhS=>?_);clear E K;obtain⟨G,I,rfl⟩:=aA P;refine tj 14 ?_;refine tj 15 ?_;refine ej 16 λK E=>?_
        go_simp;refine E _ _ ?_;clear E K;refine dj ?_;have kF:Kp (λb=>b=N\/gv.ownBlock=some b) X (F.setCell ⟨N,2,none⟩ (.slice G (T.length+1) I)):=(R.mono (λb _ h=>.inr h)).bE (.inl U) _ _;have n:=heap_setCell (o:=2) (R.az HG.az (λe=>cj (i N e))) (.slice G (T.length+1) I);have k3:=((Kp.refl (one N) F).bK 2 (.slice G (T.length+1) I)).own P (λb m e=>by have:=aK P b m;unfold one at e;omega);have k4:=HG.acO (x:=(t.1,f.1,v.1)) kF n e4 h2 k3 (by rcases h6 with e|e;exact .inl e;exact .inr ⟨_,e,C.size⟩) Y;have h4:lf A g=((t.1,f.1,v.1),v.2):=by
         unfold lf;simp only;rw[<-ht.out,<-K0.out,show ox A t.1 f.2=v from hv.symm]
        have l:=HT.step (l':=T++[(t.1,f.1,v.1)]) h0 L (λ_=>by rw[h4]);rw[h4]at l;have k5:Kp (λb=>b=a\/b=N) w (F.setCell ⟨N,2,none⟩ (.slice G (T.length+1) I)):=(B.trans (h3.mono (λb _ h=>.inl h))).comp kF bW (λb m h=>by
         rcases h with h|h
         .exact .inr h
         .have :=i b h;have:=s3.out;omega)
        generalize F.setCell ⟨N,2,none⟩ (.slice G (T.length+1) I)=wz at *;clear n k3 kF h6 h5 P R hS k2 C s2 i h4;change Hid _ at k5;replace l:=Z l;change Hid _ at k4;go_wp2_with fail;go_roundw;case rel=>
         exact⟨k+1,v.2,_,T++[(t.1,f.1,v.1)],Y,by go_num,k4,Vd,l,k5⟩
        case measure=>simp[intOf];omega
      .go_wp2_with fail;go_meet;obtain⟨q1,q2⟩:=HT.fW (.inr Y);exact⟨gv,T,by rw[q1];exact d,λe=>q2 (by rw[<-q1];exact e),B⟩
    case rest=>
     rename World=>w8
     obtain⟨gv,T,d,e,i⟩:=hcut;clear h7 H7 K5 s8 x8;change Hid _ at d e i;obtain⟨S,j⟩:=bL (λw'=>w'.cell? ⟨a,0,none⟩=some (ptr N)/\(∀q,w'.cell? ⟨N,q,none⟩=#[tv,fv,gv,.int .i64 0][q]?)/\(∀q,w'.frozen? ⟨N,q,none⟩=false):World->Prop);have s:∀W (f:PS),kM W a N base A tv fv gv 0 p J T f->S W:=λW f h=>by
      rw[j];obtain⟨i1,e1,p1,-,s7,-,-⟩:=h.st.dT;refine⟨by rw[(ae s7).1,<-hm];rfl,(ae h.az).1,(ae h.az).2⟩
     have k7:=Z j;clear j;change Hid _ at s;go_wp2_with fail;refine rj 8 9 (S) ?hS λhS=>?_
     case hS=>exact s _ _ (d.kp fL (d.st.keep ((Kp.refl no _).drew) bW))
     have j:=k7.out;subst j;refine tj 0 ?_;iterate 4 refine tn ?_
     refine oj 5 λK E=>?_
     have f:=d.kp fL (d.st.keep ((Kp.refl no w8).drew) bW);refine sc (kH f.st 4) ?_;rintro r wb⟨rfl,m,kb⟩;have g:=f.kp kb m;have k:Kp (one a) w8 wb:=((Kp.refl (one a) w8).drew).trans kb;refine⟨_,U,E _ _ (s _ _ g) (λhS=>?_)⟩;clear E K;refine tj 6 ?_;refine tj 7 ?_;refine ej 8 λK E=>?_
     go_simp;refine E _ _ ?_;clear E K;refine dj ?_;have hF:=g.acP ((uM A 4 y.2).1:Int);have kF:Kp (λb=>b=a\/b=N) w (wb.setCell ⟨N,3,none⟩ (.int .i64 ((uM A 4 y.2).1:Int))):=(i.trans (k.mono (λb _ h=>.inl h))).bE (.inr U) _ _;generalize wb.setCell ⟨N,3,none⟩ (.int .i64 ((uM A 4 y.2).1:Int))=wz at *;clear hS g k m kb f;change Hid _ at hF kF;have b:ju A σ=((R1.1,R2.1,y.1,(uM A 4 y.2).1),(uM A 4 y.2).2):=by
      unfold ju;simp only;rw[<-s9.out,<-x1.out,<-s6.out,<-z.out]
     change Hid _ at b;go_wp2_with fail;first |go_end0|(refine bodyPost_ret (v:=.tuple #[]) (by simp[results,results117,go_sem]) U ?_)
     refine⟨U,tv,fv,gv,((uM A 4 y.2).1:Int),p,J,T,?_,?_,kF⟩
     .rw[b.out];exact hF
     .rw[b.out];intro hg;have g3:=U2 hg;have g2:bn R2.2=false:=tJ (by rw[<-z.out];exact g3);have l:bn R1.2=false:=tJ (by rw[<-s6.out];exact g2);exact⟨x7 l,w5 g2,e g3,U⟩
def Al.U3(h:Al e A):ld e=ld A:=by
 funext m σ
 unfold ld;rw[h.uAl,h.types]
theorem Al.aby{b:Type}(h:Al e A)(m:Int)(one:PS->b×PS)(a:PS):dm e m one a=dm A m one a:=by
 unfold dm;rw[h.uAl]
def Al.head(h:Al e A):ju e=ju A:=by
 funext σ
 have a:iN e=iN A:=by funext σ;unfold iN;rw[h.U3]
 have b:rf e=rf A:=by funext ts σ;unfold rf;rw[h.uAl]
 have c:lf e=lf A:=by funext σ;unfold lf ox;rw[h.need,h.sAl]
 unfold ju fS;rw[a,b,c,h.need,h.uAl];grind[aby]
theorem Al.bodies{E:PE}(h:Al A E)(a:List (List UInt8×List UInt8))(b:List (UInt8×UInt8×Nat))(l:List (List UInt8×List UInt8)):∀c,gh A a b l c=gh E a b l c:=by
 induction l with
 |nil=>intro c;rfl
 |cons t rest ih=>
  intro c;cases c with
  |error e=>rfl
  |ok i=>rw[gh,gh,h.body];exact ih _
theorem Al.read(h:Al e A):jv e=jv A:=by
 unfold jv;rw[h.d,h.head];grind[bodies]
def PJ{i:Nat}{gv:Yx}{bI:Int}{c:List (List UInt8×List UInt8)}{g:List (UInt8×UInt8×Nat)}(h:dR W a A (Yn i))(m:A.en=A.data.length)(q:A.d=0)(s:dy W a N o u z gv bI c g)(x:A.m=ptr N)(f:Nat){l:List UInt8×List UInt8}(y:c[f]?=M l)(t:a<o):
  df 119 #[ptr a,V O f] W (Yu #[]) λe=> ∃jG,dR e a {A with jG:=jG,d:=0} (gO A c g l i)/\dy e a N o u z gv bI c g/\Kp (λk=>k=a\/z.ownBlock=M k) W e/\vR W e A c g l f i z:=by
 have p:(bn (uM A 2000 (Yn i)).2=Yk\/ ∃j,(uM A 2000 (Yn i)).2= Yn j/\A.data.length<j+(uM A 2000 (Yn i)).1)->df 119 #[ptr a,V O f] W (Yu #[]) λe=> ∃jG,dR e a {A with jG:=jG,d:=0} (gO A c g l i)/\dy e a N o u z gv bI c g/\Kp (λk=>k=a\/z.ownBlock=M k) W e/\vR W e A c g l f i z:=by
  intro v;refine(KU h m v f c g l).mono ?_;rintro r e⟨w,B,n,k⟩;refine⟨w,A.jG,?_,s.kp k,k.mono (λb _ h=> Yo h),vR.bad n⟩;have b:({A with jG:=A.jG,d:=0}:PE)=A:=by rw[<-q]
  grind
 cases k:uM A 2000 (Yn i)with
 |mk n b=>
  cases b with
  |error e=>exact p (Yo (by rw[k];rfl))
  |ok j=>
   grind[KV]
theorem vQ.al(h:Al e A)(l:e.en=A.en){b:List (List UInt8×List UInt8)}{c:List (UInt8×UInt8×Nat)}{d:List UInt8×List UInt8}{f:List Nd}(t:vQ e b c d a D f N):vQ A b c d a D f N:=by
 obtain⟨n,j,q,F,g,u,i,m,o,p,r,s⟩:=t;have k:Al {e with en:=j+n} {A with en:=j+n}:=⟨h.d,U⟩;rw[h.uAl]at g;rw[k.uAl,k.types]at i;exact⟨n,j,q,F,g,by grind[Al.d],i,m.trans h.d,o,p,r,s⟩
inductive gP (A:PE) (b:List (List UInt8×List UInt8)) (c:List (UInt8×UInt8×Nat)):List (List UInt8×List UInt8)->Nat->List (List UInt8×List Nd)->Nat->Prop
 |nil {a:Nat}:gP A b c [] a [] a
 |cons {d rest a D f j xs q} (h:vQ A b c d a D f j) (t:gP A b c rest j xs q):gP A b c (d::rest) a ((D,f)::xs) q
theorem gP.rI{b:List (List UInt8×List UInt8)}{c:List (UInt8×UInt8×Nat)}{l:List (List UInt8×List UInt8)}{g:List (List UInt8×List Nd)}{d:List UInt8×List UInt8}{f:List Nd}(t:gP e b c l a g N)(h:vQ e b c d N D f o):gP e b c (l++[d]) a (g++[(D,f)]) o:=by
 induction t with
 |nil=>exact .cons h .nil
 |cons i t ih=>exact .cons i (ih h)
def Dv(w w':Yw)(pb:Nat)(fv:Yx):Nat->Prop:=λb=>(w.heap.size<=b/\b<w'.heap.size)/\b≠pb/\fv.ownBlock≠M b
def Ju(w w':Yw)(pb:Nat)(fv:Yx)(fs:List (List UInt8×List UInt8))(xs:List (List UInt8×List Nd)):Prop:= ∀m more nodes,xs[m]?=M (more,nodes)->
 ∃a cap lv bv,fv= Q (M ⟨a,0,H⟩) fs.length cap/\w'.cell? ⟨a,m*4+2,H⟩=M lv/\w'.cell? ⟨a,m*4+3,H⟩=M bv/\aq w' lv ((fs.getD m ([],[])).1++more)/\(∀b,lv.ownBlock=M b->Dv w w' pb fv b)/\bh w' (Dv w w' pb fv) bv nodes
def Got(w wr:Yw)(pb:Nat)(E:PE)(fs:List (List UInt8×List UInt8))(gs:List (UInt8×UInt8×Nat))(fv:Yx)(MW:PS)(k:Nat)(wW:PS):Prop:= ∀i',wW= Yn i'->
 ∃i0 xs,MW= Yn i0/\xs.length=k/\gP E fs gs (fs.take k) i0 xs i'/\Ju w wr pb fv fs xs
theorem Got.step{w2 w3:Yw}{q:Nat}{E':PE}{f:List (List UInt8×List UInt8)}{n:List (UInt8×UInt8×Nat)}{g:PS}{c:List UInt8×List UInt8}(h:Got W w2 N A f n u g o (Yn q))(p:Kp (λb=>b=N\/u.ownBlock=M b) w2 w3)(d:vR w2 w3 E' f n c o q u)(hA:Al E' A)(G:E'.en=A.en)(hx:f[o]?=M c)(hw:W.heap.size<=w2.heap.size)
  (I:N<w2.heap.size)(r:∀b,u.ownBlock=M b->b<w2.heap.size):Got W w3 N A f n u g (o+1) (gO E' f n c q):=by
 intro J s;obtain⟨K,t,L,P,ht,R⟩:=h q U;obtain⟨a,i,S,T,X,v,w,h0,j,x,y,h1,z,hn,hT⟩:=d J s;have h2:o<f.length:=by
  grind
 have k:∀b,Dv W w2 N u b->Dv W w3 N u b:=λb h=>⟨⟨h.1.1,rq h.1.2 p.size⟩,h.2⟩
 have l:∀b,jA w2 w3 b->Dv W w3 N u b:=λb h=>⟨⟨cj h.1,h.2⟩,cj h.1,λe=>rq (r b e) h.1⟩
 have hS:∀b,Dv W w2 N u b-> ¬(b=N\/u.ownBlock=M b):=λb h e=>by
  rcases e with e|e
  .exact h.2.1 e
  .exact h.2.2 e
 refine⟨K,t++[(x,y)],L,by simp[P],?_,λm B C e=>?_⟩
 .grind[List.take_add_one,gP.rI,vQ.al]
 .rcases VE m t.length with D|D
  .rw[VC D]at e;obtain⟨a',h3,E,F,e1,e2,e3,e4,e5,e6⟩:=R m B C e;rw[v]at e1;cases e1;have d2:=(ae w).1;have d3:=(ae j).1;refine⟨a,i,E,F,v,?_,?_,e4.kp p (λb d=>hS b (e5 b d)),λb d=>k b (e5 b d),e6.kp p hS k⟩<;>grind
  .rw[VQ D]at e;have B:m-t.length=0:=by
    grind
   rw[B]at e;simp at e;obtain⟨rfl,rfl⟩:=e;have C:m=o:=Y
   subst C;have d3:=(ae j).1;refine⟨a,i,T,X,v,?_,?_,?_,λb d=>l b (z b d),hn.kp (Kp.refl no _) bW l⟩<;>grind
def PK(x:List (List UInt8×List UInt8)×List (List UInt8×List UInt8)×List (UInt8×UInt8×Nat)×Nat)(n:Nat):PS->Except (Int×Int) (List (List UInt8×List UInt8)×List (List UInt8×List UInt8)×List (UInt8×UInt8×Nat)×Nat)
 | Ym e=> Ym e
 | Yn i=>if i<n then Ym (2,(i:Int))else Yn x
abbrev FU(data:List UInt8)(bv:Yx):PE:=⟨Yv H,data,bv,data.length,Q H 0 0,0⟩
def E4(R:eJ W u D)(h5:∀b,B7 u D=M b->b<W.heap.size):
  Yy prog 87 #[u] W λr f=>Kp no W f/\((∃e a,jv (FU D u)= Ym (e,a)/\e≠0/\r= Yq (Yu #[Yv H,V O e,V O a]))\/
   ∃ts c w F G mb z tv fv gv,jv (FU D u)= Yn (ts,c,w,F)/\r= Yq (Yu #[ptr mb,V O 0,V O 0])/\dy f G mb z tv fv gv F c w/\W.heap.size<=mb/\W.heap.size<=z/\(∀b,gv.ownBlock=M b->W.heap.size<=b/\b<f.heap.size)/\ ∃i0 q xs,(ju (FU D u) (Yn 0)).2= Yn i0/\xs.length=c.length/\gP (FU D u) c w c i0 xs q/\Ju W f G fv c xs):=by
 obtain⟨ad,p,rfl,e2⟩:=R.aJ;change Hid _ at h5;replace R:=Z R;by_cases h8:2000<D.length
 .have y:jv (FU D (Q ad D.length p))= Ym (1,0):=by
   unfold jv;rw[Vi (h8)]
  change Hid _ at y;go_enter func87,ntmps87;go_wp2_with fail;refine bodyPost_ret (v:= Yu #[Yv H,V O 1,V O 0]) (by simp[results,results87,go_sem]) U ?_;exact⟨iR,Yo ⟨1,0,y,Vb,U⟩⟩
 .go_enter func87,ntmps87;go_wp2_with fail;obtain⟨wA,A⟩:=bL (((W.alloc (Yl #[Q H 0 0,Q H 0 0,Q H 0 0,V O 0] 149)).alloc (Yl #[ptr W.heap.size,Q ad D.length p,V O 0,V O D.length,V O 0,V O 0,Q H 0 0,V O 0] 236)));obtain⟨E,S⟩:=bL ({FU D (Q ad D.length p)with m:=ptr W.heap.size}:PE);have hm:E.m=ptr W.heap.size:=by rw[S]
  have g:E.data=D:=by rw[S]
  have h6:E.b= Q ad D.length p:=by rw[S]
  have T:E.en=D.length:=by rw[S]
  have h9:E.d=0:=by rw[S]
  have X:Al E (FU D (Q ad D.length p)):=⟨g,T⟩;have kA:Kp no W wA:=by rw[A];exact((Kp.refl _ _).alloc _).alloc _
  have k0:wA.heap.size=W.heap.size+2:=by rw[A];simp
  have k1:wA.heap[W.heap.size+1]?=M (E.dT (0:Nat) 0 0):=by
   rw[A,S];have:=ai (W.alloc (Yl #[Q H 0 0,Q H 0 0,Q H 0 0,V O 0] 149)) (Yl #[ptr W.heap.size,Q ad D.length p,V O 0,V O D.length,V O 0,V O 0,Q H 0 0,V O 0] 236);rw[show(W.alloc _).heap.size=W.heap.size+1 by simp]at this;exact this
  have k2:wA.heap[W.heap.size]?=M (Yl #[Q H 0 0,Q H 0 0,Q H 0 0,V O 0] 149):=by
   rw[A];exact ah (ai _ _)
  have hH:kM wA (W.heap.size+1) W.heap.size (W.heap.size+2) E (Q H 0 0) (Q H 0 0) (Q H 0 0) 0 [] [] [] (Yn 0):=by
   refine⟨⟨λi hi=>?_,λe a he=>(by cases he),?_,λb hb=>?_,by rw[g];omega,by rw[T,g];exact VP _⟩,Y,Y,Y,λe=>?_,Y,k2,⟨[],World.ownsRow_nil _ _ _ _,(λk x h=>by simp at h)⟩,⟨[],World.ownsRow_nil _ _ _ _,(λk x h=>by simp at h)⟩,⟨[],World.ownsRow_nil _ _ _ _,(λk x h=>by simp at h)⟩,(λb h=>by cases h),(λb h=>by cases h),Vc,(λx h=>by simp at h),Vc,(λx h=>by simp at h),Vc⟩
   .cases hi;exact⟨VB _,k1⟩
   .rw[h6,g];exact R.kp kA bW
   .rw[h6,g]at hb;have:=h5 b hb;omega
   .rw[h6,g]at e;have:=h5 _ e;omega
  rw[<-A];clear A S k1 k2;change Hid _ at hH X;refine(PI hH k0.symm hm).bw ?_;rintro w5⟨tv,fv,gv,F,ts,c,w,k4,h0,e0⟩;obtain⟨o,h1⟩:=bL (ju E (Yn 0));rw[<-h1]at k4 h0;have H1:=Z k4;have K1:=Z (kA.comp e0 bW (λk hk h=>Y):Kp no W w5);obtain⟨G,B⟩:=bL (W.heap.size+1);obtain⟨mb,h2⟩:=bL W.heap.size;obtain⟨z,I⟩:=bL (W.heap.size+2);rw[<-B,<-I,<-h2]at H1;rw[<-h2]at hm;rw[<-B];obtain⟨s,J⟩:=bL (gh E c w c o.2);have w6:=Z H1.mod;obtain⟨cF,k5,-⟩:=H1.ny;obtain⟨K,L,rfl⟩:=aA k5;have e3:=H1.fl;have w7:=H1.Q4;clear k4 e0 kA k0 k5;replace J:=Z J;change Hid _ at h1 h0 B h2 I;go_upto_block 0 with fail
  go_cut [6] (λ_ f=> ∃jG,dR f G {E with jG:=jG} s/\dy f G mb z tv (Q K c.length L) gv F c w/\Kp no W f/\w5.heap.size<=f.heap.size/\Got W f G E c w (Q K c.length L) o.2 c.length s)
  case first =>
   go_wp2_with fail;go_loopw [6] (λi wr=> ∃(k:Nat) (f:PS) (jG:Yx),k<=c.length/\i= V O k/\dR wr G {E with jG:=jG} f/\dy wr G mb z tv (Q K c.length L) gv F c w/\Kp no W wr/\w5.heap.size<=wr.heap.size/\gh E c w (c.drop k) f=s/\Got W wr G E c w (Q K c.length L) o.2 k f) (λi _=>c.length - (intOf i).toNat);case atStart=>exact⟨0,o.2,E.jG,Y,U,H1.st,w6,K1,cQ,J.symm,λl hi=>⟨l,[],hi,U,.nil,λm j n h=>by simp at h⟩⟩
   case round=>
    obtain⟨k,f,jG,hk,rfl,j,t,N,k6,C,h3⟩:=hrel;replace h3:=Z h3;have HM:=Z C;obtain⟨i1,e1,p1,e4,k7,-,-⟩:=j.dT;obtain⟨k8,-⟩:=ae k7;obtain⟨w8,-⟩:=ae t.az;rw[hm]at k8;clear C k7;change Hid _ at t N;replace j:=Z j;by_cases P:k<c.length
    .by_cases n:bn f=Yk
     .go_wp2_with fail;refine(bz j).cJ ?_;go_wp2_with fail;go_meet;have C:=HM.out;have hq:gh E c w (c.drop k) f=f:=by
       cases f with
       |ok q=>cases n
       |error e=>exact jR _ _ _ _ _
      rw[hq]at C;exact⟨jG,by rw[<-C];exact j,t,N,k6,λl hi=>by rw[<-C]at hi;rw[hi]at n;cases n⟩
     .simp only[VG]at n;obtain⟨k9,hx⟩:∃x,c[k]?=M x:=⟨_,Vj P⟩;have w0:c.drop k=k9::c.drop (k+1):=by
       obtain⟨k4,w4⟩:=VA.1 hx;rw[VY k4,w4]
      obtain⟨q,rfl⟩:∃q,f= Yn q:=by
       cases f with
       |ok q=>exact⟨q,U⟩
       |error e=>cases n
      change Hid _ at hx w0;go_wp2_with fail;refine(bz j).cJ ?_;go_wp2_with fail;refine(PJ j (by show E.en=E.data.length;rw[T,g]) h9 t hm k hx w7).bw ?_;rintro w9⟨x,h7,w1,k3,w3⟩;have h4:=h3.step k3 w3 ⟨U,U⟩ rfl hx N.size j.lt (λb hb=>by
       obtain⟨cc,oo,-⟩:=t.ny;exact(oo.lt b hb).2)
      rw[Al.body (E':={E with jG:=jG}) (E:=E) ⟨U,U⟩]at h4;clear w3;replace h4:=Z h4;rw[Al.body (E':={E with jG:=jG}) (E:=E) ⟨U,U⟩]at h7;have l:dR w9 G {E with jG:=x} (gO E c w k9 q):=by
       have S:({E with jG:=x,d:=0}:PE)={E with jG:=x}:=by rw[<-h9]
       rw[<-S];exact h7
      have K3:=Z (N.comp k3 bW (λb hb h=>by
       rcases h with h|h
       .have :=B.out;omega
       .obtain⟨cc,oo,-⟩:=t.ny;have:=aK oo b h;have:=I.out;omega))
      have e5:=k3.size;clear h7 k3 k8 w8;change Hid _ at l w1;go_wp2_with fail;go_roundw;case rel=>
       refine⟨k+1,_,x,Y,by go_num,l,w1,K3,Y,?_,h4⟩;have C:=HM.out;rw[w0.out,gh]at C;exact C
      case measure=>simp[intOf];omega
    .go_wp2_with fail;go_meet;have C:=HM.out;rw[Xi Y,gh]at C;exact⟨jG,by rw[<-C];exact j,t,N,k6,by
      rw[<-C];have h:=h3.out;have e:k=c.length:=Y
      rw[e]at h;exact h⟩
  case rest=>
   rename Yw=>w2
   obtain⟨jG,w4,k6,h4,k9,k7⟩:=hcut;have h3:jv (FU D (Q ad D.length p))=PK o.1 D.length s:=by
    have f:gh E o.1.2.1 o.1.2.2.1 o.1.2.1 o.2=s:=by
     rw[J.out];cases hq:o.2 with
     |error e=>rw[jR,jR]
     |ok j=>
      obtain⟨-,N,q3,-⟩:=h0 (by rw[hq];rfl);rw[N,q3]
    rw[<-X.read];unfold jv;rw[Va (by rw[g];exact h8),<-h1.out];simp only;rw[f,g];unfold PK;cases s<;>rfl
   cases f:s with
   |error ea=>
    obtain⟨e,a⟩:=ea;have y:=h3;have hS:=w4;rw[f]at y hS;obtain⟨he,i2,w0,k⟩:=hS.bad e a U;obtain⟨x,-⟩:=ae k;rw[hm]at x;have n:bn (Except.error (e,a):PS)=true:=rfl;by_cases P:(i2:Int)<D.length
    .go_wp2_with fail;refine(dJ hS _ _ Vb).bw ?_;rintro w9⟨h7,k3⟩;have l:=h7;obtain⟨-,i3,k8,t⟩:=l.bad e a U;obtain⟨C,-⟩:=ae t;rw[hm]at C;have K3:=Z (h4.comp k3 bW (λb hb h=>by have:=B.out;unfold one at h;omega));go_wp2_with fail;refine(bz l).cJ ?_;go_wp2_with fail;go_quiet(fail);go_wp2_with fail;refine bodyPost_ret (v:= Yu #[Yv H,V O e,V O a]) (by simp[results,results87,go_sem]) U ?_;exact⟨K3.drewN _,Yo ⟨e,a,y,he,U⟩⟩
    .go_wp2_with fail;refine(bz hS).cJ ?_;go_wp2_with fail;go_quiet(fail);go_wp2_with fail;refine bodyPost_ret (v:= Yu #[Yv H,V O e,V O a]) (by simp[results,results87,go_sem]) U ?_;exact⟨h4.drewN _,Yo ⟨e,a,y,he,U⟩⟩
   |ok q=>
    have y:=h3;have hS:=w4;rw[f]at y hS;unfold PK at y;simp only at y;obtain⟨hq,k⟩:=hS.ok q U;obtain⟨x,-⟩:=ae k;rw[hm]at x;by_cases P:q<D.length
    .rw[Vi P]at y;go_wp2_with fail;refine(dJ hS _ _ Vb).bw ?_;rintro w9⟨h7,k3⟩;have l:=h7;obtain⟨-,i3,k8,t⟩:=l.bad 2 q U;obtain⟨C,-⟩:=ae t;rw[hm]at C;have n:bn (Except.error (2,q):PS)=true:=rfl;have K3:=Z (h4.comp k3 bW (λb hb h=>by have:=B.out;unfold one at h;omega));go_wp2_with fail;refine(bz l).cJ ?_;go_wp2_with fail;go_quiet(fail);go_wp2_with fail;refine bodyPost_ret (v:= Yu #[Yv H,V O 2,V O (q:Int)]) (by simp[results,results87,go_sem]) U ?_;exact⟨K3.drewN _,Yo ⟨2,q,y,Vb,U⟩⟩
    .rw[Va P]at y;have n:bn (Except.ok q:PS)=false:=rfl;go_wp2_with fail;refine(bz hS).cJ ?_;go_wp2_with fail;refine bodyPost_ret (v:= Yu #[ptr mb,V O 0,V O 0]) (by simp[results,results87,go_sem]) U ?_;have a:bn o.2=false:=by
      cases l:o.2 with
      |ok j=>rfl
      |error e=>
       have j:=J.out;rw[f,l,jR]at j;cases j
     obtain⟨q1,N,q3,j⟩:=h0 a;refine⟨h4,Yp ⟨o.1.1,o.1.2.1,o.1.2.2.1,o.1.2.2.2,G,mb,z,tv,Q K c.length L,gv,y,U,?_,?_,?_,?_,?_⟩⟩
     .rw[N,q3,j];exact k6
     .have :=h2.out;omega
     .have :=I.out;omega
     .intro b hb;obtain⟨l,e,-⟩:=H1.CR;have:=e.lt b hb;have:=I.out;omega
     .obtain⟨i0,xs,C,g2,g3,g4⟩:=k7 q f;rw[Wh]at g3;refine⟨i0,q,xs,?_,by rw[N];exact g2,?_,by rw[N];exact g4⟩
      .rw[<-X.head,<-h1.out];exact C
      .rw[N,q3];have b:∀{l i e r},gP E c w l i e r->gP _ c w l i e r:=λt=>by
        induction t with
        |nil=>exact .nil
        |cons h t ih=>exact .cons (h.al X T) ih
       exact b g3
end
end Rf
section
open Go.RowKit
open Rf (ptr bh)
def Bz{P:Prop}(h:P:=by
 obtain⟨o,-,a⟩:=V2.1 h;obtain⟨-,-,rfl,-⟩:=qU a;exact VP _):P:=h
def BA{f:dH}{B:List (List Nd)}{G:Q5}(e:∀a o l h m N b c,G a o l h m=M (N,b,c)->c.aC<=m.aC){x:Nd}{m c:Mc}{b:Int}(h:fU f B G a x m=M (N,b,c)):c.aC<=m.aC:=by
 unfold fU at h;split at h
 .grind
 split at h
 .grind[aI]
 split at h
 .obtain⟨o,-,b⟩:=V2.1 h;obtain⟨-,-,rfl,-⟩:=qU b;omega
 split at h
 .split at h
  .cases h
  split at h
  .cases h;exact VP _
  .exact Bz
 split at h
 .split at h
  .cases h
  .exact Bz
 split at h
 .unfold mJ at h;split at h
  .cases h
  split at h
  .grind
  cases d:G (a+1) H (B.getD x.n []) 0 (P6 f x.n m)with
  |none=>grind
  |some v=>
   obtain⟨g,i,j⟩:=v;have b:=e _ _ _ _ _ _ _ _ d;rw[d]at h;simp only at h;split at h
   .cases h;exact b
   split at h
   .cases h
   .cases h;exact b
 grind[Option.map_eq_some_iff,yB]
def oL{f:dH}{B:List (List Nd)}:∀(g d:Nat) (o:Option Nd) (l:List Nd) (h:Nat) (m:Mc) (t:Nat) (a:Int) (i:Mc),go f B g d o l h m=M (t,a,i)->i.aC<=m.aC
 |0,_,_,_,_,_,_,_,_,e=>by cases e
 |g+1,d,M x,l,h,m,t,a,i,e=>by
  rw[go]at e;cases b:go f B g d H l 0 m with
  |none=>grind
  |some v=>
   obtain⟨n,o,j⟩:=v;have c:=oL g _ _ _ _ _ _ _ _ b;rw[b]at e;simp only at e;split at e
   .cases e;exact c
   split at e
   .cases e;exact c
   split at e
   .cases e;exact c
   by_cases k:fG j<h+(if x.op=3 then 0 else x.value)
   .rw[Vi k]at e;cases e
   rw[Va k]at e;split at e
   .exact Vk (oL g _ _ _ _ _ _ _ _ e) c
   .cases e;exact c
 |g+1,d,H,[],h,m,t,a,i,e=>by rw[go]at e;cases e;exact VP _
 |g+1,d,H,x::l,h,m,t,a,i,e=>by
  rw[go]at e;split at e
  .cases e;exact VP _
  cases b:fU f B (go f B g) d x {m with aC:=m.aC-1}with
  |none=>rw[b]at e;cases e
  |some v=>
   obtain⟨n,o,j⟩:=v;have c:j.aC<=m.aC-1:=BA (oL g) b;rw[b]at e;simp only at e;split at e
   .cases e;omega
   .have :=oL g _ _ _ _ _ _ _ _ e;omega
section
variable{E:ew}{lo:Nat->Prop}{w w':World}{fb n t d:Nat}{s:Rs}{lab bv ev:Value}{va:Int}{m m':Mc}
def Qy(E:ew)(lo:Nat->Prop)(w:Yw)(fb d t:Nat)(m':Mc):Ending->Yw->Prop:=λr w'=>r= Yq (Yu #[])/\Kp (iM lo) w w'/\ ∃s',ee E lo w' fb s'/\s'.t=t/\s'.d=d/\E.F=s'.used+m'.aC/\(t=0->s'.Is m'/\s'.aW.length+m'.aC<=1000000)
def Ii(a:s.d=d)(hF:E.F=s.used+m.aC)(b:s.aW.length+m.aC+1<=1000000)(c:m'.aC=m.aC):∀r w',After E lo w fb s t m' r w'->Qy E lo w fb d t m' r w':=λ_ _ ⟨e,f,g,h,i,l,j,k⟩=>⟨e,f,g,h,i,j.trans a,Y,λe=>⟨(k e).1,Y⟩⟩
def yC(f:dH):Prop:=f.funcs.length<=1000000/\ ∀n,(f.funcs.getD n du).typ.2.length<=1/\(f.funcs.getD n du).typ.1.length<=(f.funcs.getD n du).aZ/\(f.funcs.getD n du).aZ<=1000
def MF(hP:oK E a)(z:yC E.f)(h:ee E lo w fb s)(hi:s.Is m)(P:s.t=0)(R:s.d=d)(k2:d<=16)(hF:E.F=s.used+m.aC)(S:m.aC<=1000000){y:Option Addr}(A:w.heap[fb]?=M (Yl #[u,Q y s.aW.length o] 281))(f:N=(E.f.funcs.getD n du).typ.1.length)
  (c:mJ E.f E.B (go E.f E.B a) d n m=M (t,-1,m')):
  Yy prog 122 #[ptr E.rb,V O n,Q (if o=s.aW.length-N then y else y.map (·.add (s.aW.length-N))) (s.aW.length - (s.aW.length-N)) (o - (s.aW.length-N))] w λr w'=>Kp (iM (λb=>lo b\/(b=fb\/u.ownBlock=M b\/(Value.slice y s.aW.length o).ownBlock=M b))) w w'/\Kp (iM lo) w w'/\ ∃(j:Rs) (g:Option Addr) (k i:Nat),r= Yq (Q g k i)/\ee E lo w' fb {j with bg:=s.bg,aW:=s.aW}/\j.t=t/\j.d=d/\E.F=j.used+m'.aC/\N<=s.aW.length/\n<E.f.funcs.length/\
   (t=0->k<=1/\ ∃e,e.length=k/\aw w' (Q g k i) 1 k (ay e)/\Rs.Is {j with bg:=s.bg,aW:=s.aW.take (s.aW.length-N)++e} m'/\m'.aC<=m.aC):=by
 obtain⟨k1,B⟩:=h.abD A;obtain⟨k3,k4,C,-,-,-,-,-,D,-⟩:=h.frame;rw[A]at C;cases C;unfold mJ at c;rw[hi.Mr,<-f]at c;split at c
 .cases c
 rename_i k5;have F:N<=s.aW.length:=Y
 have T:n<E.f.funcs.length:=Y
 have W:=hi.len;by_cases l:d=16
 .rw[Vi l]at c;cases c;refine(Mx k1 (by rw[R];exact l) n _).bw ?_;rintro w1⟨X,p⟩;exact⟨p,fP p,{s with t:=6},H,0,0,U,B _ _ X p,U,R,hF,F,T,λe=>by cases e⟩
 rw[Va l]at c;have q:(s.aW.drop (s.aW.length-N)).length=N:=Vd
 have h0:aw w (Q (if o=s.aW.length-N then y else y.map (·.add (s.aW.length-N))) (s.aW.length - (s.aW.length-N)) (o - (s.aW.length-N))) 1 (s.aW.drop (s.aW.length-N)).length (ay (s.aW.drop (s.aW.length-N))):=by
  have:=jQ D (m:=s.aW.length-N) Y;rw[q,show ay (s.aW.drop (s.aW.length-N))=(ay s.aW).drop (s.aW.length-N)by simp[ay,WO]];rw[show s.aW.length - (s.aW.length-N)=N by omega]at this⊢;exact this
 have h1:P6 E.f n m=Df E.f n (s.aW.drop (s.aW.length-N)) m:=by
  unfold P6 Df;rw[<-f,q,hi.stack,Vn,show s.bg.length+s.aW.length-N=s.bg.length+(s.aW.length-N)by omega,Wd]
 rw[h1]at c;cases K:go E.f E.B a (d+1) H (E.B.getD n []) 0 (Df E.f n (s.aW.drop (s.aW.length-N)) m)with
 |none=>rw[K]at c;cases c
 |some v=>
  obtain⟨t1,o1,x⟩:=v;have h2:=oL _ _ _ _ _ _ _ _ _ K;rw[K]at c;simp only at c;obtain⟨G,h3,h4⟩:=z.2 n;have h5:t=t1/\m'.aC=x.aC/\(t1=0->(E.f.funcs.getD n du).typ.2.length<=fG x/\m'=P7 E.f n m x):=by
   split at c
   .rename_i e;cases c;exact⟨U,U,λI=>absurd I e⟩
   .rename_i e;have J:t1=0:=Y
    split at c
    .cases c
    .rename_i I;cases c;exact⟨J.symm,U,λ_=>⟨Y,U⟩⟩
  obtain⟨rfl,I,J⟩:=h5;refine(JK hP k1 hi.has P R Y hF S (.of h0) (λb L=> Yp (Yp (Yp (by have L:=TC L;rw[CT D]at L;exact L)))) T z.1 (by rw[q,f];exact h3) h4 U G K (λe=>(J e).1)).mono ?_;rintro r w1⟨p,j,g,k,i,rfl,X,L,h6,h7,h8⟩;refine⟨p,fP p,j,g,k,i,U,B _ _ X p,L,h6,by rw[I];exact h7,F,T,λe=>?_⟩;obtain⟨b,rfl,h9⟩:=h8 e;obtain⟨k6,k0⟩:=J e;refine⟨G,_,?_,h9,?_,by rw[I];exact h2⟩
  .have :fG x<=x.stack.length:=Yi _ _;rw[Xk];omega
  .rw[k0];refine⟨?_,hi.aD,b.mem,b.gl,b.bG,b.k8,b.Bw,hi.JI⟩;show m.stack.take (m.stack.length - (E.f.funcs.getD n du).typ.1.length)++x.stack.drop (x.stack.length - (E.f.funcs.getD n du).typ.2.length)=s.bg++(s.aW.take (s.aW.length-N)++_)
   rw[<-f,W,show s.bg.length+s.aW.length-N=s.bg.length+(s.aW.length-N)by omega,hi.stack,Wc,VD]
end
abbrev hP_(E:ew)(g:Nat):Prop:=oK E g
section
variable{E:ew}{lo:Nat->Prop}{w w':World}{fb n t d:Nat}{s:Rs}{lab bv ev:Value}{va:Int}{m m':Mc}
theorem TG(hP:oK E N)(B:yC E.f)(h:ee E lo w fb s)(hi:s.Is m)(h1:s.t=0)(hd:s.d=d)(w7:d<=16)(hF:E.F=s.used+m.aC)(x0:s.aW.length+m.aC+1<=1000000)(y:mJ E.f E.B (go E.f E.B N) d n m=M (t,-1,m')):
  Yy prog 197 #[ptr E.rb,ptr fb,eW 16 n lab bv ev va] w (Qy E lo w fb d t m'):=by
 have hn:n<E.f.funcs.length:=by
  unfold mJ at y;split at y
  .cases y
  .omega
 have h2:=h.mW;have w8:=B.1;obtain⟨mv,gv,h3,-⟩:=h.inst;have h4:=h.run.1;obtain⟨x1,tv,fv,h5,pg,C,x2,h6,rfl,w9,h7⟩:=h.mod;obtain⟨a,pv,rv,lv,x3,ll,rfl,x4,c0,c1,c2,c3,h8,x5,h9,x6,e0,x7,e3,e4⟩:=h7 n hn;obtain⟨j,l,rfl,e6⟩:=aw.aJ h9;obtain⟨o,p,rfl,e7⟩:=aw.aJ h8;obtain⟨P,z⟩:=bL ((E.f.funcs.getD n du).typ.1.length);rw[<-z]at e7 c0;obtain⟨k0,k1⟩:=bL ((E.f.funcs.getD n du).typ.2.length);rw[<-k1]at e6 c1;obtain⟨nf,k2⟩:=bL E.f.funcs.length;rw[<-k2]at C w9 hn w8;have u:∀W,Kp no (w.alloc (bX 16 n lab bv ev va)) W->(∀q,W.cell? ⟨E.rb,q,H⟩=#[ptr E.xb,V O E.F,V O s.used,V O s.t,V O s.d][q]?)/\(∀q,W.cell? ⟨E.xb,q,H⟩=#[ptr E.mb,ptr E.sb,mv,gv][q]?)/\(∀q,W.cell? ⟨E.mb,q,H⟩=#[tv,Q (M ⟨a,0,H⟩) nf h6,h5,pg][q]?)/\(∀q,W.cell? ⟨w.heap.size,q,H⟩=#[V Ys 16,V Yr n,lab,bv,ev,V O va][q]?)/\W.cell? ⟨a,n*4,H⟩=M (Q o P p)/\W.cell? ⟨a,n*4+1,H⟩=M (Q j k0 l):=λW k=>⟨(ae (k.az (ah h4) id)).1,(ae (k.az (ah h3) id)).1,(ae (k.az (ah C) id)).1,(ae (k.az (ai w (bX 16 n lab bv ev va)) id)).1,k.cell (Kp.cell ((Kp.refl no w).alloc _) c0 id) id,k.cell (Kp.cell ((Kp.refl no w).alloc _) c1 id) id⟩
 have x8:P<=s.aW.length:=by
  unfold mJ at y;rw[hi.Mr,<-z]at y;split at y
  .cases y
  .omega
 have x9:s.aW.length<=1000000:=Y
 obtain⟨g,k3⟩:=bL (s.aW.length-P);have H0:IntKind.i64.wrap ((s.aW.length:Int) - (P:Int))=(g:Int):=by rw[IntKind.wrap_i64];omega
 have e8:g<=s.aW.length:=Y
 have H1:IntKind.i64.wrap (n:Int)=(n:Int):=by rw[IntKind.wrap_i64];omega
 have H2:wrap64 (n:Int)=(n:Int):=by unfold wrap64;omega
 have i:=Z (show hP_ E N/\yC E.f/\s.Is m/\s.t=0/\s.d=d/\E.F=s.used+m.aC from⟨@hP,B,hi,h1,hd,hF⟩);have D:=Z u;have c:=Z h;clear h h3 h4 C h7 c0 c1 c2 c3 h8 h9 e0 e4 u k1 k2 e3 h1 hd hF hi B;change Hid _ at k3 z y;go_enter func197,ntmps197;go_wp2_with fail;refine rj 16 17 (λW=>(∀q,W.cell? ⟨E.rb,q,H⟩=#[ptr E.xb,V O E.F,V O s.used,V O s.t,V O s.d][q]?)/\(∀q,W.cell? ⟨E.xb,q,H⟩=#[ptr E.mb,ptr E.sb,mv,gv][q]?)/\(∀q,W.cell? ⟨E.mb,q,H⟩=#[tv,Q (M ⟨a,0,H⟩) nf h6,h5,pg][q]?)/\(∀q,W.cell? ⟨w.heap.size,q,H⟩=#[V Ys 16,V Yr n,lab,bv,ev,V O va][q]?)/\W.cell? ⟨a,n*4,H⟩=M (Q o P p)/\W.cell? ⟨a,n*4+1,H⟩=M (Q j k0 l)) ?hS λhS=>?_
 case hS=>exact D _ fL
 refine tj 0 ?_;iterate 14 refine tn ?_
 refine oj 15 λK x=>?_
 go_simp;refine x _ _ (D _ (((Kp.refl _ _).drew).alloc _)) (λhS=>?_);clear x K;refine ej 16 λK x=>?_
 go_simp;refine x _ _ ?_;clear x K;refine dj ?_;clear hS D;obtain⟨W,hW⟩:=bL (((w.alloc (Yl #[V Ys 16,V Yr n,lab,bv,ev,V O va] 309)).alloc (Yl #[Q o P p,Q j k0 l] 190)).drew);rw[<-hW];have kW:Kp no w W:=by rw[hW];exact(((Kp.refl _ _).alloc _).alloc _).drew
 have F:W.heap[w.heap.size]?=M (Yl #[V Ys 16,V Yr n,lab,bv,ev,V O va] 309):=by rw[hW];exact ah (ai w _)
 have G:W.heap[w.heap.size+1]?=M (Yl #[Q o P p,Q j k0 l] 190):=by
  rw[hW];have:=ai (w.alloc (Yl #[V Ys 16,V Yr n,lab,bv,ev,V O va] 309)) (Yl #[Q o P p,Q j k0 l] 190);rw[show(w.alloc (Yl #[V Ys 16,V Yr n,lab,bv,ev,V O va] 309)).heap.size=w.heap.size+1 by simp]at this;exact this
 have e9:=c.guard kW (λb=>b=w.heap.size\/b=w.heap.size+1) (λb e=>cj (au G));obtain⟨A,H3,v,-,⟨I,f,rfl,H4⟩,-⟩:=e9.frame;have J:=λe (k:Kp no W e)=>MF (lo:=λb=>lo b\/(b=w.heap.size\/b=w.heap.size+1)) (w:=e) i.1 i.2.1 (e9.quiet k) i.2.2.1 i.2.2.2.1 i.2.2.2.2.1 w7 i.2.2.2.2.2 Y (k.az v id) z y
 rw[<-k3.out]at J;have u:∀e,Kp no W e->(∀q,e.cell? ⟨fb,q,H⟩=#[A,Q I s.aW.length f][q]?)/\(∀q,e.cell? ⟨w.heap.size,q,H⟩=#[V Ys 16,V Yr n,lab,bv,ev,V O va][q]?):=λe k=>⟨(ae (k.az v id)).1,(ae (k.az F id)).1⟩
 have k4:∀e r,Kp no W e->Kp (iM (λb=>(lo b\/(b=w.heap.size\/b=w.heap.size+1))\/(b=fb\/A.ownBlock=M b\/(Value.slice I s.aW.length f).ownBlock=M b))) e r->(∀q,r.cell? ⟨fb,q,H⟩=#[A,Q I s.aW.length f][q]?)/\(∀q,r.cell? ⟨w.heap.size,q,H⟩=#[V Ys 16,V Yr n,lab,bv,ev,V O va][q]?):=λe r k b=>⟨(ae (b.az (k.az v id) (λh=>h (Yp (Yo U))))).1,(ae (b.az (k.az F id) (λh=>h (Yo (Yp (Yo U)))))).1⟩
 obtain⟨H5,H6⟩:=ae v;obtain⟨H7,H8⟩:=ae G;have H9:g<=f:=Y
 clear e9 v F G hW;change Hid _ at u k4 J;go_wp2_with fail;go_quiet(fail);go_wp2_with fail;refine rj 12 12 (λe=>(∀q,e.cell? ⟨fb,q,H⟩=#[A,Q I s.aW.length f][q]?)/\(∀q,e.cell? ⟨w.heap.size,q,H⟩=#[V Ys 16,V Yr n,lab,bv,ev,V O va][q]?)) ?hS λhS=>?_
 case hS=>exact u _ (((Kp.refl _ _).drewN _).drew)
 refine tj 0 ?_;iterate 9 refine tn ?_
 refine oj 10 λK x=>?_
 refine sc (J _ (((Kp.refl _ _).drewN nq).drew)) ?_;rintro r K0⟨s9,k5,y0,K1,kr,K2,rfl,w6,L,k6,k7,-,-,k8⟩;refine⟨_,U,x _ _ (k4 _ _ (((Kp.refl _ _).drewN nq).drew) s9) (λhS=>?_)⟩;clear x K;simp only[pS];refine tj 11 ?_;refine dj ?_;generalize(if f=g then I else Option.map (λx=>x.add g) I)=K3 at *;have K5:=(Kp.trans kW.any (((Kp.refl (iM lo) W).drewN nq).drew)).trans (fP k5);have s0:=Z (w6.free h2);have k9:=Z L;have w0:=Z k6;have w1:=Z k7;have b:=w6.run.1;dsimp only at b;rw[L]at b;obtain⟨K4,K6⟩:=ae b;by_cases K:t=0
 .obtain⟨K7,e,R,S,w2,T⟩:=k8 K;obtain⟨K8,K9,k,-,-,-,X,-,w3,h0,-⟩:=w6.frame;have e5:=(ae k).1 1;rw[hS.1 1]at e5;have W0:=Vr e5;subst W0;obtain⟨i0,s1,s2,s3,s4⟩:=info_parts iq;have q:=gY w3 (m:=g) e8;dsimp only at q X h0;have s5:=hS.1;have s6:=(ae k).2;have W1:=au k;have s7:((t:Int)==0)=true:=Vd
  clear w6 s9 k5 L k6 k7 k8 b k w3 e5 hS;replace T:=Z T;change Hid _ at h0 w2 R;replace S:=Z S;replace q:=Z q;go_wp2_with(at_builtin;go_loud (refine bj _ U _ _ 53 U 0 38 i0 (V Yr 0) 1 8 underlying53 s1 s2 s3 s4 U Vb _ g _ U q _ kr _ U S (dX _) ?c3 ?c4 ?c5 ?_));case c3=>unfold maxLen;omega
  case c4=>omega
  case c5=>omega
  intro v1 W2 w4 x w5;rw[iu I g f s.aW.length f]at x w5;obtain⟨W3,W4,rfl⟩:=aA w4;have s8:=(x.cell_far ⟨fb,1,H⟩ Vd X);have W5:=(x.frozen_far ⟨fb,1,H⟩ Vd X).trans (s6 1);rw[s5 1]at s8;obtain⟨W6,W7⟩:=h0 K0 W2 _ (s.aW.take g++e) iR (by
   have e1:(s.aW.take g++e).length=g+kr:=by rw[Vn,VV,R.out];omega
   have e2:ay (s.aW.take g++e)=(ay s.aW).take g++ay e:=by simp[ay,WB]
   rw[e1,e2];exact w4) x w5
  have W8:=Z (W6.free h2);have W9:=K5.trans (fP W7);go_wp2;go_end0;refine⟨U,W9,_,W8,k9.trans K,w0,w1,λ_=>⟨w2,?_⟩⟩;have:=T.out;have:=R.out;simp only[Vn,VV];omega
 .have s7:((t:Int)==0)=false:=Vd
  go_wp2;go_end0;exact⟨U,K5,_,s0,k9,w0,w1,λe=>absurd e K⟩
end
end
section
open Go.RowKit
open Rf (ptr bh eS)
section
variable{E:ew}{lo:Nat->Prop}{w w':World}{fb n t d g:Nat}{s:Rs}{lab bv ev:Value}{va:Int}{m m':Mc}{out:Int}{x:Nd}
def Rs.Is.cut(hi:s.Is m)(b:a+N<=s.aW.length):Rs.Is {s with aW:=s.aW.take a++s.aW.drop (s.aW.length-N)} (jC m a N):=by
 refine⟨?_,hi.aD,hi.mem,hi.gl,hi.bG,hi.k8,hi.Bw,hi.JI⟩;show m.stack.take (nL m+a)++m.stack.drop (m.stack.length-N)=s.bg++_
 rw[hi.nl,hi.stack,Vn,show s.bg.length+s.aW.length-N=s.bg.length+(s.aW.length-N)by omega,Wc,Wd,VD]
def Ij(q:oK E g)(k:yC E.f)(h:ee E lo w fb s)(hi:s.Is m)(e:s.t=0)(l:s.d=d)(o:d<=16)(hF:E.F=s.used+m.aC)(f:s.aW.length+m.aC+1<=1000000)(c:x.op≠2/\x.op≠3/\x.op≠4/\x.op≠12/\x.op≠13/\x.op≠14/\x.op≠15)(a:fU E.f E.B (go E.f E.B g) d x m=M (t,out,m')):
  out= -1/\Yy prog 197 #[ptr E.rb,ptr fb,eW x.op.toNat x.n lab bv ev va] w (Qy E lo w fb d t m'):=by
 unfold fU at a;rw[Va (by simp[c]),Va c.2.2.1,Va (by simp[c]),Va c.2.2.2.2.1,Va c.2.2.2.2.2.1]at a;by_cases b:x.op=16
 .rw[Vi b]at a;have i:out= -1:=by
   grind[mJ]
  subst i;refine⟨U,?_⟩;rw[b];grind[TG]
 .rw[Va b]at a;split at a
  .rename_i i;rw[Vo,Vx]at i;obtain⟨v,j,p⟩:=VX.1 a;cases p;exact⟨U,(Qu h hi e i.2 (t:=v.1) (m':=v.2) j Y i.1).mono (Ii l hF f (yB (t:=v.1) (s':=v.2) j))⟩
  .cases a
def abP(E:ew)(g:Nat):Prop:= ∀{lo:Nat->Prop} {w:Yw} {fb d t:Nat} {s:Rs} {x:Nd} {lab bv ev:Yx} {m m':Mc} {out:Int},ee E lo w fb s->s.Is m->s.t=0->s.d=d->d<=16->E.F=s.used+m.aC->s.aW.length+m.aC<=1000000->(x.op=2\/x.op=3\/x.op=4)->bh w E.ro bv x.body->bh w E.ro ev x.els->fU E.f E.B (go E.f E.B g) d x m=M (t,out,m')->
 Yy prog 195 #[ptr E.rb,ptr fb,eW x.op.toNat x.n lab bv ev (x.value:Int)] w (Uq E lo w fb d t out m')
def qe{l:List Nd}(h:bh w R u l):∃b a,u= Q b l.length a/\l.length<=a:=by
 grind[cases bh,aw.aJ]
end
structure BB(E:ew)(lo:Nat->Prop)(w W:Yw)(fb d g t:Nat)(out:Int)(m':Mc)(x:Nd)(ls:List Nd)(lsv:Yx)(h:Nat)(s:Rs)(m:Mc):Prop where
 q:ee E lo W fb s
 is:s.Is m
 t0:s.t=0
 d0:s.d=d
 fu:E.F=s.used+m.aC
 sz:s.aW.length+m.aC<=1000000
 nd:bh W E.ro lsv ls
 go:go E.f E.B g d (M x) ls h m=M (t,out,m')
 kp:Kp (iM lo) w W
def BC{P:Prop}(h:P:=by
 cases jm;clear yO;go_wp2;go_ret;exact⟨U,fP K5.out,s5,Ik.out.free HR.out,Il.out,Im.out,Io.out,λ_=>D8.out (by first |rfl |trivial)⟩):P:=h
def bkD{E:ew}(hP:∀k,k<a->oK E k):abP E a:=by
 intro lo w fb d t s x lab bv ev m m' y h hi K hd k3 hF h4 D F he f;have G:=h.mW;obtain⟨z,A,rfl,-⟩:=qe F;obtain⟨I,J,rfl,-⟩:=qe he;obtain⟨r,u⟩:=bL x;obtain⟨L,n,w3,g,j,B⟩:=x;have N:r.value=B:=by rw[u]
 have C:r.op=L:=by rw[u]
 simp only at D F he N;have kA:Kp no w (w.alloc (bX L.toNat n lab (Q z g.length A) (Q I j.length J) B)):=oO;have P:=h.box (bX L.toNat n lab (Q z g.length A) (Q I j.length J) B);have R:=F.kp kA bW (λ_ h=>h);have h5:=he.kp kA bW (λ_ h=>h);have S:=ai w (bX L.toNat n lab (Q z g.length A) (Q I j.length J) B);unfold fU at f;rw[<-u]at f;have HR:=Z G;have HV:=Z N;have HO:=Z (show(r.op=3/\((L.toNat:Int)==3)=Yk)\/(r.op≠3/\((L.toNat:Int)==3)=Yj)from by rw[C];rcases D with rfl |rfl |rfl <;>decide);rcases or_assoc.2 D with D|D
 case' inl=>
  have v:r.body=g:=by rw[u]
  have HB:=Z (show BB E _ w _ fb d a t y m' r g _ s.aW.length s m from⟨P,hi,K,hd,hF,h4,R,by rw[Vi (by rw[C];exact D),hi.Mr,v]at f;exact f,kA.any⟩);have HN:=Z S;obtain⟨lv,sv,p,-,⟨ad,h7,rfl,h8⟩,-⟩:=h.frame;have T:=λb t=>(ae (ah (o:= Yl b t) p)).1
  have k1:(s.aW.length:Int)<=1000000:=Y
  have h9:=Z (show s.aW.length<=1000000 by omega);have k6:((L.toNat:Int)==4)=false:=by rcases D with rfl |rfl <;>rfl
  clear h hi K hd hF h4 F he R h5 P S G N kA p f C v u D;generalize s.aW.length=e at *;go_enter func195,ntmps195;go_wp2;let W:=g;let lv:=Value.slice z g.length A
 case' inr=>
  rw[Va (by rw[C,D];decide),Vi (by rw[C];exact D)]at f;split at f
  .cases f
  rename_i k0;rw[hi.Mr]at f k0;obtain⟨o,c,ho⟩:=lC (l:=s.aW) Y;obtain⟨e1,e2,e3⟩:=hi.one ho;have v:r.body=g/\r.els=j:=by rw[u];exact⟨U,U⟩
  have k2:s.aW.length=o.length+1:=by rw[ho];simp
  rw[e1,e2,v.1,v.2,show s.aW.length-1=o.length by omega]at f;have X:=Z (eC P ho Y);have h0:=Z (λi (q:ee E (λb=>lo b\/b=w.heap.size) i fb {s with aW:=o}) (k:Kp _ _ i) (W:List Nd) (h1:Yx) (hg:go E.f E.B a d _ W o.length {m with stack:=s.bg++o}=M _) (hn:bh i E.ro h1 W)=>(show BB E _ w i fb d a t y m' r W h1 o.length {s with aW:=o} {m with stack:=s.bg++o}from⟨q,hi.aW,K,hd,hF,(by show o.length+m.aC<=_;omega),hn,hg,kA.any.trans k⟩));have h1:=Z (λi (k:Kp (iM (λb=>lo b\/b=w.heap.size)) _ i)=>(show bh i E.ro _ g/\bh i E.ro _ j from⟨R.kp k (λb F hn=>hn (Yo (G b F))) (λ_ h=>h),h5.kp k (λb F hn=>hn (Yo (G b F))) (λ_ h=>h)⟩));have h2:=Z (λi (k:Kp (iM (λb=>lo b\/b=w.heap.size)) _ i)=>k.az S (λh=>h (Yp U)));have h9:=Z (show o.length<=1000000 by omega);have k1:(o.length:Int)<=1000000:=Y
  have h3:=Z f;have k6:((L.toNat:Int)==4)=true:=by rw[D];rfl
  clear h hi K hd hF h4 F he R h5 P S G N kA f C v u ho e1 e2 e3 k2 k0 D;refine(X5 (c=0)).elim (λh6=>?za) (λh6=>?zb)
 case' za=>
  have f:=h3.out;rw[Vi h6]at f;have HG:=Z f;clear f h3;go_enter func195,ntmps195;go_wp2_with fail;refine X.bw ?_;rintro i⟨v,c⟩;have q:=h2 i c;obtain⟨k0,k1⟩:=ae q;obtain⟨lv,sv,p,-,⟨ad,h7,rfl,h8⟩,-⟩:=v.frame;obtain⟨T,k2⟩:=ae p;dsimp only at T;have HB:=Z (show BB E _ w i fb d a t y m' r j _ o.length {s with aW:=o} {m with stack:=s.bg++o}from h0 i v c _ _ HG (h1 i c).2);have HN:=Z q;clear v c q p X h0 h1 h2 HG;generalize o.length=e at *;go_wp2;let W:=j;let lv:=Value.slice I j.length J
 case' zb=>
  have f:=h3.out;rw[Va h6]at f;have HG:=Z f;clear f h3;go_enter func195,ntmps195;go_wp2_with fail;refine X.bw ?_;rintro i⟨v,c⟩;have q:=h2 i c;obtain⟨k0,k1⟩:=ae q;obtain⟨lv,sv,p,-,⟨ad,h7,rfl,h8⟩,-⟩:=v.frame;obtain⟨T,k2⟩:=ae p;dsimp only at T;have HB:=Z (show BB E _ w i fb d a t y m' r g _ o.length {s with aW:=o} {m with stack:=s.bg++o}from h0 i v c _ _ HG (h1 i c).1);have HN:=Z q;clear v c q p X h0 h1 h2 HG;generalize o.length=e at *;go_wp2;let W:=g;let lv:=Value.slice z g.length A
 all_goals
  go_loopg [] a (λi wr=> ∃(s2:Rs) (m2:Mc),Hid (BB E (λb=>lo b\/b=w.heap.size) w wr fb d i t y m' r W lv e s2 m2)/\Hid (wr.heap[w.heap.size]?=M (bX L.toNat n lab (Q z g.length A) (Q I j.length J) (B:Int)))/\i<=a)
  case atStart=>exact⟨_,_,HB,HN,cQ⟩
  case round=>
   obtain⟨s2,m2,p,hN,w4⟩:=hrel;have w5:=h9.out;obtain⟨c,rfl⟩:∃c,gk=c+1:=by
    cases gk with
    |zero=>have:=p.go;cases this
    |succ k=>exact⟨k,U⟩
   have jm:=p.go;rw[go]at jm;cases i:go E.f E.B c d H W 0 m2 with
   |none=>rw[i]at jm;cases jm
   |some v=>
    obtain⟨t1,o1,m3⟩:=v;rw[i]at jm;simp only at jm;have w7:=vy _ _ _ _ _ _ _ _ _ i;have w8:=oL _ _ _ _ _ _ _ _ _ i;have h7:=Z (hP c Y p.q p.is p.t0 p.d0 k3 p.fu p.sz p.nd i);have yO:=Z jm;clear jm i;go_wp2_with fail;refine h7.bw ?_;rintro e8⟨k5,s5,k4,h0,h8,h9,k0⟩;have h1:=k5.az hN (λh=>h (Yp U));obtain⟨w9,e0⟩:=ae h1;have h2:=k4.run.1;rw[h0]at h2;obtain⟨e4,e5⟩:=ae h2;have K5:=Z (p.kp.trans k5);have k7:=Z k5;have Ik:=Z k4;have Il:=Z h0;have Im:=Z h8;have Io:=Z h9;have D8:=Z k0;have k8:=Z h1;clear k5 k4 h0 h8 h9 k0 h1 h2 h7 hN;have jm:=yO.out;by_cases h3:t1=0
    .subst h3;rw[Va Vc]at jm;by_cases T:0<o1
     .rw[Vi T]at jm;exact BC
     .rw[Va T]at jm;by_cases X:o1<0
      .rw[Vi X]at jm;exact BC
      .rw[Va X]at jm;obtain rfl :o1=0:=Y
       obtain⟨k,e6⟩:=D8 (by first |rfl |trivial);by_cases hcut:fG m3<e+(if r.op=3 then 0 else r.value)
       .rw[Vi hcut]at jm;cases jm
       rw[Va hcut]at jm;rw[k.Mr]at hcut;rcases HO.out with⟨k9,k1⟩|⟨k9,k1⟩
       .first
         |(exfalso;rw[WI]at k6 k1;omega)
         |(rw[Vi k9]at jm hcut
           have w0:=Z jm;have h6:=Z k;have q:e+0<=s5.aW.length:=Y
           have w1:s5.aW.length<=1000000:=Y
           have e7:m3.aC<=1000000:=Y
           clear jm yO k hcut T X;go_wp2_with fail;refine(PO Ik q Y).bw ?_;rintro w6⟨k2,k6⟩;have w2:=Z (show BB E _ w w6 fb d c t y m' r W lv e _ (jC m3 e 0)from⟨k2,h6.cut q,Il,Im,Io,(by show(s5.aW.take e++s5.aW.drop _).length+m3.aC<=_;rw[Vn,VV,Xk];omega),p.nd.kp (k7.trans k6) (λb F hn=>hn (Yo (HR b F))) (λ_ h=>h),w0,K5.trans k6⟩);have b:=Z (k6.az k8 (λh=>h (Yp U)));clear k2 k6;go_wp2;go_roundg c;case rel=>exact⟨_,_,w2,b,Y⟩
           case measure=>omega)
       .rw[Va k9]at jm hcut;cases jm;have q:e+B<=s5.aW.length:=cj HV.out;have w1:s5.aW.length<=1000000:=Y
        have h6:=Z k;have b:=HV.out;clear yO k hcut T X;go_wp2_with fail;refine(PO Ik q Y).bw ?_;rintro w6⟨k2,k6⟩;have W:=Z (k2.free HR);have K6:=Z (fP (K5.trans k6));clear k2 k6;go_wp2;go_ret;refine⟨U,K6,_,W,Il,Im,Io,λ_=>⟨by rw[HV.out];exact h6.cut q,?_⟩⟩;show(s5.aW.take e++s5.aW.drop _).length+m3.aC<=_
        rw[Vn,VV,Xk];omega
    .rw[Vi h3]at jm;have b:((t1:Int)==0)=false:=Vd
     cases jm;clear yO;go_wp2;go_ret;exact⟨U,fP K5,s5,Ik.free HR,Il,Im,Io,λe=>absurd e h3⟩
section
variable{E:ew}{lo B:Nat->Prop}{w w':World}{fb n t d g:Nat}{s:Rs}{m m':Mc}{out:Int}{x:Nd}{l:List Nd}{v:Value}
def xo(h:bh w B v l)(i:l[N]?=M x):∃a o c b e f,v= Q (M ⟨a,o,H⟩) l.length c/\l.length<=c/\w.cell? ⟨a,o+N*6,H⟩=M (V Ys x.op.toNat)/\w.cell? ⟨a,o+N*6+1,H⟩=M (V Yr x.n)/\w.cell? ⟨a,o+N*6+2,H⟩=M b/\w.cell? ⟨a,o+N*6+3,H⟩=M e/\w.cell? ⟨a,o+N*6+4,H⟩=M f/\w.cell? ⟨a,o+N*6+5,H⟩=M (V O x.value)/\eS w b x.ag/\bh w B e x.body/\bh w B f x.els:=by
 cases h with
 | @mk _ _ f row own q r u=>
  have y:=(VA.1 i).1;have z:=row.1;obtain⟨A,C,D,F,-⟩:=q N x i;have e:∀j,j<6->f[N*6+j]?=M (f.getD (N*6+j) Rf.aV):=λj G=>by
   grind
  obtain⟨-,⟨p,I⟩|⟨a,o,c,p,k,b⟩⟩:=row
  .omega
  .exact⟨a,o,c,_,_,_,p,k,b _ _ A,b _ _ C,b _ _ (e 2 Y),b _ _ (e 3 Y),b _ _ (e 4 Y),b _ _ D,F,r N x i,u N x i⟩
structure yD(E:ew)(lo:Nat->Prop)(w W:Yw)(fb d g t:Nat)(out:Int)(m':Mc)(l:List Nd)(s:Rs)(m:Mc):Prop where
 q:ee E lo W fb s
 is:s.Is m
 t0:s.t=0
 d0:s.d=d
 fu:E.F=s.used+m.aC
 sz:s.aW.length+m.aC<=1000000
 go:go E.f E.B g d H l 0 m=M (t,out,m')
 kp:Kp (iM lo) w W
def Rs.Is.ac0(h:s.Is m):Rs.Is {s with used:=s.used+1} {m with aC:=m.aC-1}:=⟨h.stack,h.aD,h.mem,h.gl,h.bG,h.k8,h.Bw,h.JI⟩
theorem TH(H0:yC E.f)(K2:E.F<=1000000)(hP:∀k,k<g->oK E k):oK E g:=by
 intro lo w fb s d l lv m t out m' h hi s3 hd s4 hF s5 hn f;have k9:=h.mW;obtain⟨K3,K4,rfl,K6⟩:=qe hn;have HS:=Z (show yD E lo w w fb d g t out m' (l.drop 0) s m from⟨h,hi,s3,hd,hF,s5,f,iR⟩);have HN:=Z hn;have K7:m.aC<=1000000:=Y
 clear h hi s3 hd hF s5 hn f;change Hid _ at k9;go_enter func162,ntmps162;go_wp2;go_loopg [7] g (λa b wr=> ∃(i:Nat) (y:Rs) (m1:Mc),b= V O i/\i<=l.length/\i+m1.aC<=1000000/\Hid (yD E lo w wr fb d a t out m' (l.drop i) y m1)/\a<=g);case atStart=>exact⟨0,s,m,U,VB _,Y,HS,cQ⟩
 case round=>
  obtain⟨i,y,m1,rfl,H1,K8,hS,K9⟩:=hrel;obtain⟨k1,rfl⟩:∃k1,gk=k1+1:=by
   cases gk with
   |zero=>have:=hS.go;cases this
   |succ k=>exact⟨k,U⟩
  cases S:l[i]? with
  |none=>
   have a: ¬i<l.length:=by have:l.length<=i:=(by simpa using S);omega
   have f:=hS.go;rw[Xi Y,go]at f;cases f;have b: ¬((i:Int)<l.length):=Y
   clear S a H1;go_wp2;go_ret;exact⟨U,hS.kp,y,hS.q,hS.t0,hS.d0,hS.fu,λ_=>⟨hS.is,hS.sz⟩⟩
  |some x=>
   have e5:i<l.length:=(VA.1 S).1;have W0:(i:Int)<l.length:=Y
   have f:=hS.go;have e6:l.drop i=x::l.drop (i+1):=by
    rw[VY e5];congr 1;exact(VA.1 S).2
   rw[e6,go]at f;have w6:=HN.kp hS.kp (λb hb hn=>hn (k9 b hb)) (λ_ h=>h);obtain⟨w0,e7,w7,-⟩:=hS.q.run;rw[hS.t0,hS.d0]at w0;obtain⟨H2,H3⟩:=ae w0;by_cases s6:m1.aC=0
   .rw[Vi s6]at f;cases f;have j:E.F=y.used:=cj hS.fu;have c:=Z (w7 wr 5 iR);have e:=Z (λW (k:Kp no wr W)=>w7 W 5 k);have s7:((y.used:Int)==E.F)=true:=Vd
    have a:=λW (k:Kp no wr W)=>ae (k.az w0 id)
    clear S w0 e7 w7 w6 e6 c;change Hid _ at a;go_wp2_with fail;go_quiet(fail);have c:=Z (e (wr.drewN nq) ((Kp.refl _ _).drewN nq));obtain⟨s8,s9⟩:=a (wr.drewN nq) ((Kp.refl _ _).drewN nq);go_wp2;go_ret;exact⟨U,hS.kp.trans c.2,{y with t:=5},c.1,U,hS.d0,hS.fu,nofun⟩
   .rw[Va s6]at f;cases D:fU E.f E.B (go E.f E.B k1) d x {m1 with aC:=m1.aC-1}with
    |none=>rw[D]at f;cases f
    |some v=>
     obtain⟨t1,o1,m3⟩:=v;rw[D]at f;simp only at f;have H4:m3.aC<=m1.aC-1:=BA (oL k1) D;have W1:=FD (vy k1) D;have r:=Z f;have s7:((y.used:Int)==E.F)=false:=by have:=hS.fu;simp;omega
     have W2:IntKind.i64.wrap (y.used+1)=(y.used:Int)+1:=by have:=hS.fu;have:=hS.sz;rw[IntKind.wrap_i64];omega
     have x0:=Z (λW (k:Kp no wr W)=>e7 W (y.used+1) k);have x1:=Z (λW (k:Kp no wr W)=>ae (k.az w0 id));clear f w0 e7 w7 e6;change Hid _ at w6;go_wp2_with fail;go_quiet(fail);obtain⟨s8,s9⟩:=x1 (wr.drewN nq) ((Kp.refl _ _).drewN nq);go_upto_region 9 with fail
     obtain⟨H5,e8⟩:=bL ((wr.drewN nq).setCell ⟨E.rb,2,H⟩ (V O (y.used+1)));rw[<-e8];have H6:ee E lo H5 fb {y with used:=y.used+1}/\Kp (iM lo) wr H5:=by rw[e8];exact x0 _ ((Kp.refl _ _).drewN nq)
     obtain⟨e9,e4⟩:=H6;have w1:=w6.kp e4 (λb hb hn=>hn (k9 b hb)) (λ_ h=>h);obtain⟨a,o,W3,lab,bv,ev,H7,-,c0,c1,c2,c3,c4,c5,k4,k6,k7⟩:=xo w1 S;cases H7;obtain⟨u,hu⟩:=bL x.op.toNat;rw[<-hu]at c0;have C:=hS.is.ac0;have J:E.F=y.used+1+(m1.aC-1):=cj hS.fu;have k8:y.aW.length+(m1.aC-1)+1<=1000000:=cj hS.sz;clear w6 e8 x0 x1 H2 H3 s8 s9 s7;change Hid _ at e4 e9 w1 S;by_cases F:x.op=2\/x.op=3\/x.op=4
     .have c:=Z (bkD (λk e=>hP k Y) (lab:=lab) e9 C hS.t0 hS.d0 s4 J (by show y.aW.length+(m1.aC-1)<=_;omega) F k6 k7 D);rw[<-hu]at c;have h5:u=2\/u=3\/u=4:=by rw[hu];rcases F with e|e|e<;>rw[e]<;>decide
      clear F D k6 k7 k4 hu C J k8;rcases h5 with rfl |rfl |rfl
      all_goals
       go_wp2_with fail;refine c.bw ?_;rintro s0⟨k5,q,R,T,h6,h7,h8⟩;have j:=R.run.1;rw[T]at j;obtain⟨w2,w3⟩:=ae j;have K5:=Z (hS.kp.trans (e4.trans k5));clear k5 j;change Hid _ at R T h6 h7 h8;have f:=r.out;by_cases hz:t1=0
       .subst hz;by_cases hp:0<=o1
        .rw[Vi (Yp hp)]at f;cases f;clear r;go_wp2;go_ret;exact⟨U,K5,q,R,T,h6,h7,λ_=>h8 (by first |rfl |trivial)⟩
        .rw[Va Y]at f;have s1:o1<0:=Y
         obtain⟨z,A⟩:=h8 (by first |rfl |trivial);have N:=Z (show yD E lo w _ fb d k1 t out m' _ q m3 from⟨R,z,T,h6,h7,A,f,K5⟩);clear f r z A hp;go_wp2;go_roundg k1;case rel=>exact⟨i+1,q,m3,U,Y,Y,N,Y⟩
         case measure=>omega
       .rw[Vi (Yo hz)]at f;have H8:((t1:Int)==0)=false:=Vd
        cases f;clear r;replace hz:=Z hz;go_wp2;go_ret;exact⟨U,K5,q,R,T,h6,h7,h8⟩
     .have k:=D;unfold fU at k;rw[Va (λe=>F (e.imp id Yo)),Va (λe=>F (Yp (Yp e)))]at k;by_cases W:x.op=12\/x.op=15
      .rw[Vi W]at k;obtain⟨o',I,h9⟩:=V2.1 k;obtain⟨rfl,rfl,rfl,-⟩:=qU h9;obtain⟨al,ol,x2,rfl,x3,w8⟩:=aw.get k4 (by rw[VN,I];rfl);have x4:0<x.ag.length:=(VA.1 I).1;rw[VU]at w8;have h5:u=12\/u=15:=by rw[hu];rcases W with e|e<;>rw[e]<;>decide
       have j:=e9.run.1;dsimp only at j;rw[hS.t0]at j;obtain⟨w2,w3⟩:=ae j;obtain⟨m3,G⟩:=bL ({m1 with aC:=m1.aC-1});obtain⟨q,p⟩:=bL ({y with used:=y.used+1});have K5:=Z (hS.kp.trans e4);have X:=Z (show ee E lo H5 fb q from by rw[p];exact e9);have h0:=Z (show q.t=0 from by rw[p];exact hS.t0);have h1:=Z (show q.d=d from by rw[p];exact hS.d0);have h2:=Z (show E.F=q.used+m3.aC from by rw[p,G];exact J);have h3:=Z (show 0=0->q.Is m3/\q.aW.length+m3.aC<=1000000 from λ_=>by rw[p,G];exact⟨C,by show y.aW.length+(m1.aC-1)<=_;omega⟩);rw[<-G]at r H4;clear F W D k k6 k7 k4 hu C J k8 I h9 j p;change Hid _ at G;rcases h5 with rfl |rfl
       all_goals
        have f:=r.out
        .by_cases hp:0<=o1
         .rw[Vi (Yp hp)]at f;cases f;clear r;go_wp2;go_ret;exact⟨U,K5,q,X,h0,h1,h2,λ_=>h3 (by first |rfl |trivial)⟩
         .rw[Va Y]at f;have s1:o1<0:=Y
          obtain⟨z,A⟩:=h3 (by first |rfl |trivial);have N:=Z (show yD E lo w _ fb d k1 t out m' _ q m3 from⟨X,z,h0,h1,h2,A,f,K5⟩);clear f r z A hp;go_wp2;go_roundg k1;case rel=>exact⟨i+1,q,m3,U,Y,Y,N,Y⟩
          case measure=>omega
      .rw[Va W]at k;by_cases k0:x.op=13
       .rw[Vi k0]at k;split at k
        .cases k
        rename_i P;obtain⟨oo,c,ho⟩:=lC (l:=y.aW) (by rw[C.Mr]at P;have s2:y.aW.length≠0:=(by first |exact P|exact λe=>P _);omega);have H9:y.aW.length=oo.length+1:=by rw[ho];simp
        obtain⟨e1,e2,-⟩:=C.one ho;rw[e1,e2]at k;have w9:=Z (eC e9 ho (by show y.aW.length<=_;omega));obtain⟨mp,h4⟩:=bL (({({m1 with aC:=m1.aC-1}:Mc)with stack:=y.bg++oo}:Mc));have L:=Z C;have w5:=Z J;have e0:=Z (show oo.length+(m1.aC-1)<=1000000 by omega);rw[<-h4]at k;have h5:u=13:=by rw[hu,k0];rfl
        by_cases K:c=0
        .rw[Vi K]at k;obtain⟨rfl,rfl,G⟩:t1=0/\o1= -1/\m3=mp:=by cases k;exact⟨U,U,U⟩
         have k2:=Z (G.trans h4);clear F W D k6 k7 k4 hu C J k8 P ho e1 e2 k0 h4 G k;subst h5;go_wp2_with fail;refine w9.bw ?_;rintro s0⟨R,k5⟩;obtain⟨q,p⟩:=bL (({y with used:=y.used+1,aW:=oo}:Rs));have j:=R.run.1;dsimp only at j;rw[hS.t0]at j;obtain⟨w2,w3⟩:=ae j;have k3:=w1.kp k5 (λb hb hn=>hn (k9 b hb)) (λ_ h=>h);have K5:=Z (hS.kp.trans (e4.trans k5));have X:=Z (show ee E lo s0 fb q from by rw[p];exact R);have h0:=Z (show q.t=0 from by rw[p];exact hS.t0);have h1:=Z (show q.d=d from by rw[p];exact hS.d0);have h2:=Z (show E.F=q.used+m3.aC from by rw[p,k2.out];exact w5);have h3:=Z (show 0=0->q.Is m3/\q.aW.length+m3.aC<=1000000 from λ_=>by rw[p,k2.out];exact⟨L.aW,e0⟩);obtain⟨a5,o5,x5,x6,x7,x8,w4,-,d0,d1,d2,d3,d4,d5,e3,-⟩:=xo k3 S;cases w4;clear R k5 j p k3;have f:=r.out;rw[Va Y]at f;obtain⟨z,A⟩:=h3 (by first |rfl |trivial);have N:=Z (show yD E lo w _ fb d k1 t out m' _ q m3 from⟨X,z,h0,h1,h2,A,f,K5⟩);clear f r z A;go_wp2;go_roundg k1;case rel=>exact⟨i+1,q,m3,U,Y,Y,N,Y⟩
         case measure=>omega
        .rw[Va K]at k;obtain⟨o',I,h9⟩:=V2.1 k;obtain⟨rfl,rfl,G,-⟩:=qU h9;have x4:0<x.ag.length:=(VA.1 I).1;have x9:(c==0)=false:=by simpa using K
         have k2:=Z (G.trans h4);clear F W D k k6 k7 k4 hu C J k8 P ho e1 e2 k0 h4 h9 K G;change Hid _ at I;subst h5;go_wp2_with fail;refine w9.bw ?_;rintro s0⟨R,k5⟩;obtain⟨q,p⟩:=bL (({y with used:=y.used+1,aW:=oo}:Rs));have j:=R.run.1;dsimp only at j;rw[hS.t0]at j;obtain⟨w2,w3⟩:=ae j;have k3:=w1.kp k5 (λb hb hn=>hn (k9 b hb)) (λ_ h=>h);have K5:=Z (hS.kp.trans (e4.trans k5));have X:=Z (show ee E lo s0 fb q from by rw[p];exact R);have h0:=Z (show q.t=0 from by rw[p];exact hS.t0);have h1:=Z (show q.d=d from by rw[p];exact hS.d0);have h2:=Z (show E.F=q.used+m3.aC from by rw[p,k2.out];exact w5);have h3:=Z (show 0=0->q.Is m3/\q.aW.length+m3.aC<=1000000 from λ_=>by rw[p,k2.out];exact⟨L.aW,e0⟩);obtain⟨a5,o5,x5,x6,x7,x8,w4,-,d0,d1,d2,d3,d4,d5,e3,-⟩:=xo k3 S;cases w4;clear R k5 j p k3;obtain⟨al,ol,x2,rfl,x3,w8⟩:=aw.get e3 (by rw[VN,I.out];rfl);rw[VU]at w8;have f:=r.out
         .by_cases hp:0<=o1
          .rw[Vi (Yp hp)]at f;cases f;clear r;go_wp2;go_ret;exact⟨U,K5,q,X,h0,h1,h2,λ_=>h3 (by first |rfl |trivial)⟩
          .rw[Va Y]at f;have s1:o1<0:=Y
           obtain⟨z,A⟩:=h3 (by first |rfl |trivial);have N:=Z (show yD E lo w _ fb d k1 t out m' _ q m3 from⟨X,z,h0,h1,h2,A,f,K5⟩);clear f r z A hp;go_wp2;go_roundg k1;case rel=>exact⟨i+1,q,m3,U,Y,Y,N,Y⟩
           case measure=>omega
       .rw[Va k0]at k;by_cases w5:x.op=14
        .rw[Vi w5]at k;split at k
         .cases k
         rename_i P;obtain⟨oo,c,ho⟩:=lC (l:=y.aW) (by rw[C.Mr]at P;have s2:y.aW.length≠0:=(by first |exact P|exact λe=>P (Yo e));omega);have H9:y.aW.length=oo.length+1:=by rw[ho];simp
         obtain⟨e1,e2,-⟩:=C.one ho;rw[e1,e2]at k;have w9:=Z (eC e9 ho (by show y.aW.length<=_;omega));obtain⟨mp,h4⟩:=bL (({({m1 with aC:=m1.aC-1}:Mc)with stack:=y.bg++oo}:Mc));have e0:=Z (show oo.length+(m1.aC-1)<=1000000 by omega);rw[<-h4]at k;rw[e1]at P;obtain⟨cn,rfl⟩:∃cn:Nat,c=cn:=⟨c.toNat,Y⟩;obtain⟨L,hL⟩:=bL x.ag.length;rw[V9,<-hL]at k;obtain⟨o',I,h9⟩:=V2.1 k;obtain⟨rfl,rfl,G,-⟩:=qU h9;obtain⟨s2,x9⟩:=bL (min cn (L-1));rw[<-x9]at I;have x4:s2<L:=by rw[hL];exact(VA.1 I).1
         have W4:L<=1000000:=by rw[hL];omega
         have h5:u=14:=by rw[hu,w5];rfl
         have W5:IntKind.i64.wrap (L-1)=((L-1:Nat):Int):=by rw[IntKind.wrap_i64];omega
         have W6:IntKind.u64.wrap ((L-1:Nat):Int)=((L-1:Nat):Int):=by rw[IntKind.wrap_u64];omega
         have k2:=Z (G.trans h4);clear F W D k k6 k7 k4 hu k8 P ho e1 e2 k0 w5 h4 h9 G;change Hid _ at C J I hL;subst h5;generalize L-1=K at *;by_cases e5:cn<K;all_goals
          have K0:(s2=cn/\cn<(K:Int)/\IntKind.i64.wrap cn=cn)\/(s2=K/\ ¬cn<(K:Int)):=by
           first
            |exact Yo ⟨Y,Y,by rw[IntKind.wrap_i64];omega⟩
            |exact Yp ⟨Y,Y⟩
          clear e5 x9;rcases K0 with⟨rfl,K1,W7⟩|⟨rfl,K1⟩
          all_goals
           go_wp2_with fail;refine w9.bw ?_;rintro s0⟨R,k5⟩;obtain⟨q,p⟩:=bL (({y with used:=y.used+1,aW:=oo}:Rs));have j:=R.run.1;dsimp only at j;rw[hS.t0]at j;obtain⟨w2,w3⟩:=ae j;have k3:=w1.kp k5 (λb hb hn=>hn (k9 b hb)) (λ_ h=>h);have K5:=Z (hS.kp.trans (e4.trans k5));have X:=Z (show ee E lo s0 fb q from by rw[p];exact R);have h0:=Z (show q.t=0 from by rw[p];exact hS.t0);have h1:=Z (show q.d=d from by rw[p];exact hS.d0);have h2:=Z (show E.F=q.used+m3.aC from by rw[p,k2.out];exact J);have h3:=Z (show 0=0->q.Is m3/\q.aW.length+m3.aC<=1000000 from λ_=>by rw[p,k2.out];exact⟨C.aW,e0⟩);obtain⟨a5,o5,x5,x6,x7,x8,w4,-,d0,d1,d2,d3,d4,d5,e3,-⟩:=xo k3 S;cases w4;clear R k5 j p k3;obtain⟨al,ol,x2,rfl,x3,w8⟩:=aw.get e3 (by rw[VN,I.out];rfl);rw[<-hL.out]at d2;have f:=r.out
           .by_cases hp:0<=o1
            .rw[Vi (Yp hp)]at f;cases f;clear r;go_wp2;go_ret;exact⟨U,K5,q,X,h0,h1,h2,λ_=>h3 (by first |rfl |trivial)⟩
            .rw[Va Y]at f;have s1:o1<0:=Y
             obtain⟨z,A⟩:=h3 (by first |rfl |trivial);have N:=Z (show yD E lo w _ fb d k1 t out m' (l.drop (i+1)) q m3 from⟨X,z,h0,h1,h2,A,f,K5⟩);clear f r z A hp;go_wp2;go_roundg k1;case rel=>exact⟨i+1,q,m3,U,Y,Y,N,Y⟩
             case measure=>omega
        .have b:x.op≠2/\x.op≠3/\x.op≠4/\x.op≠12/\x.op≠13/\x.op≠14/\x.op≠15:=⟨λe=>F (Yo e),λe=>F (Yp (Yo e)),λe=>F (Yp (Yp e)),λe=>W (Yo e),k0,w5,λe=>W (Yp e)⟩;obtain⟨I,G⟩:=Ij (lab:=lab) (bv:=bv) (ev:=ev) (va:=(x.value:Int)) (hP k1 Y) H0 e9 C hS.t0 hS.d0 s4 J k8 b D;subst I;have p:∀c:UInt8,x.op≠c->((u:Int)==c.toNat)=false:=λc K=>by
          have:u≠c.toNat:=λe=>K (Vp.1 (by rw[<-hu];exact e))
          simp;omega
         have P:((u:Int)==2)=false:=p 2 b.1;have X:((u:Int)==3)=false:=p 3 b.2.1;have q4:((u:Int)==4)=false:=p 4 b.2.2.1;have c:((u:Int)==12)=false:=p 12 b.2.2.2.1;have e:((u:Int)==13)=false:=p 13 b.2.2.2.2.1;have K:((u:Int)==14)=false:=p 14 b.2.2.2.2.2.1;have L:((u:Int)==15)=false:=p 15 b.2.2.2.2.2.2;rw[<-hu]at G;clear F W D k k6 k7 k4 hu C J k8 k0 w5 b p;replace G:=Z G;go_wp2_with fail;refine G.bw ?_;rintro s0⟨k5,q,R,T,h6,h7,h8⟩;have j:=R.run.1;rw[T]at j;obtain⟨w2,w3⟩:=ae j;have K5:=Z (hS.kp.trans (e4.trans k5));clear k5 j;change Hid _ at R T h6 h7 h8;by_cases hz:t1=0
         .subst hz;have f:=r.out;rw[Va Y]at f;obtain⟨z,A⟩:=h8 (by first |rfl |trivial);have N:=Z (show yD E lo w _ fb d k1 t out m' _ q m3 from⟨R,z,T,h6,h7,A,f,K5⟩);clear f r z A;go_wp2;go_roundg k1;case rel=>exact⟨i+1,q,m3,U,Y,Y,N,Y⟩
          case measure=>omega
         .have f:=r.out;rw[Vi (Yo hz)]at f;have H8:((t1:Int)==0)=false:=Vd
          cases f;clear r;replace hz:=Z hz;go_wp2;go_ret;exact⟨U,K5,q,R,T,h6,h7,h8⟩
end
def Qz{E:ew}(a:yC E.f)(b:E.F<=1000000)(g:Nat):oK E g:=by
 induction g using Nat.strongRecOn with
 |ind g ih=>grind[TH]
def l0(E:ew)(s:Rs)(mv gv kv vv:Yx):Nat->jr:=λi=>if i=0 then .none else kN E s mv gv kv vv i
structure QX(E:ew)(lo:Nat->Prop)(w:Yw)(s:Rs):Prop where
 mod:tI w E.ro E.mb E.f E.B
 mW:∀b,E.ro b->lo b
 hp:∃mv gv kv vv,Hp lo w (l0 E s mv gv kv vv)
section
variable{E:ew}{lo:Nat->Prop}{w w':World}{s s':Rs}
def QX.quiet(h:QX E lo w s)(k:Kp no w w'):QX E lo w' s:=by
 exact AW
def QX.guard(h:QX E lo w s)(k:Kp no w w')(P:Nat->Prop)(hP:∀b,P b->w.heap.size<=b/\b<w'.heap.size):QX E (λb=>lo b\/P b) w' s:=by
 exact AX
def QX.free(h:QX E (λb=>lo b\/R b) w s)(a:∀b,E.ro b->lo b):QX E lo w s:=by
 obtain⟨b,-,c,gv,d,e,f⟩:=h;exact⟨b,a,c,gv,d,e,f.free⟩
def kU.exit(h:kU E lo w s):QX E lo w s:=by
 obtain⟨h1,h2,mv,gv,kv,vv,h⟩:=h;have hI:∀i,l0 E s mv gv kv vv i=kN E s mv gv kv vv i\/l0 E s mv gv kv vv i=.none:=λi=>by
  unfold l0;grind
 exact AY
def BG{P:Prop}(h:P:=by
 by_cases a:i<7
 .rw[Vi a,Vi a];rcases i with _|_|_|_|_|_|_|i
  .omega
  all_goals first |rfl |omega
 grind):P:=h
def QX.enter(h:QX E lo w s){rb F:Nat}(k:Kp no w w')(p:w.heap.size<=rb)(l:w'.heap[rb]?=M (Yl #[ptr E.xb,V O F,V O (0:Nat),V O (0:Nat),V O (0:Nat)] 242)):kU {E with rb:=rb,F:=F} lo w' {s with used:=0,t:=0,d:=0}:=by
 obtain⟨m,n,a,gv,c,f,h⟩:=h;have g:∀i,i≠0->kN {E with rb:=rb,F:=F} {s with used:=0,t:=0,d:=0} a gv c f i=l0 E s a gv c f i:=λi hi=>by
  unfold l0 kN;rw[Va hi];exact BG
 refine⟨m.kp k.any,n,a,gv,c,f,h.yU (λi=>i=0) k.any g (λi hi=>by subst hi;exact l) (λi b hi e=>?_) (λi j b hi o _ _=>by rw[hi,o])⟩;subst hi;have i:rb=b:=Vr e;grind[Hp.fresh]
def QX.env{rb F:Nat}(h:QX {E with rb:=rb,F:=F} lo w s):QX E lo w s:=by
 obtain⟨f,g,a,gv,b,c,h⟩:=h;refine⟨f,g,a,gv,b,c,?_⟩;have e:l0 {E with rb:=rb,F:=F} s a gv b c=l0 E s a gv b c:=by
  funext i
  unfold l0 kN;by_cases d:i=0
  .grind
  .rw[Va d,Va d];exact BG
 grind
def QX.like(h:QX E lo w s)(e1:s'.mem=s.mem)(e2:s'.gl=s.gl)(e3:s'.st=s.st):QX E lo w s':=by
 obtain⟨g,j,a,gv,b,c,h⟩:=h;refine⟨g,j,a,gv,b,c,?_⟩;have e:l0 E s' a gv b c=l0 E s a gv b c:=by
  funext i
  unfold l0 kN;by_cases d:i=0
  .grind
  .rw[Va d,Va d];by_cases f:i<7
   .rw[Vi f,Vi f];rcases i with _|_|_|_|_|_|_|i
    .omega
    all_goals grind[wP]
   grind
 grind
def QX.QA(h:QX E (λb=>lo b\/R b) w s)(k:Kp R w w')(d:∀b,E.ro b->lo b)(e:∀b,R b-> ¬lo b):QX E lo w' s:=by
 obtain⟨f,-,g,gv,j,l,h⟩:=h;exact⟨f.kp (k.mono (λb _ a c=>e b a (d b c))),d,g,gv,j,l,λi=>(h.dY i).kp k (λb c a=>h.low i b c (Yp a)),h.ap,λi b c a=>h.low i b c (Yo a),λb a=>Vm (h.zV b (Yo a)) k.size⟩
def QX.dY(h:QX E lo w s):∃a gv b c,w.heap[E.xb]?=M (Yl #[ptr E.mb,ptr E.sb,a,gv] 196)/\w.heap[E.sb]?=M (Yl #[b,c] 96)/\w.ownsRow 0 5 1 a s.mem.length (aP s.mem)/\w.ownsRow 0 38 1 gv s.gl.length (ay s.gl)/\w.ownsRow 0 2 1 b s.st.length (aQ (s.st.map (·.1)))/\w.ownsRow 0 2 1 c s.st.length (aQ (s.st.map (·.2)))/\E.xb≠E.sb:=by
 obtain⟨-,-,a,gv,b,c,h⟩:=h;have d:=h.dY 1;have f:=h.dY 2;have g:=h.dY 3;have i:=h.dY 4;have j:=h.dY 5;have k:=h.dY 6;have m:∀l:List UInt8,(aP l).length=l.length:=λl=>by simp[aP]
 refine⟨a,gv,b,c,d,f,?_,?_,?_,?_,λe=>?_⟩
 .have h:w.ownsRow 0 _ 1 a (aP s.mem).length (aP s.mem):=g;grind
 .have h:w.ownsRow 0 _ 1 gv (ay s.gl).length (ay s.gl):=i;grind[jt]
 .have h:w.ownsRow 0 _ 1 b (aQ (s.st.map (·.1))).length (aQ (s.st.map (·.1))):=j;grind[jq]
 .have h:w.ownsRow 0 _ 1 c (aQ (s.st.map (·.2))).length (aQ (s.st.map (·.2))):=k;grind[jq]
 .have :=h.ap 1 2 E.xb U (by rw[e];rfl);cases this
end
section
variable{E:ew}{lo P:Nat->Prop}{w:World}{s:Rs}{mv gv kv vv:Value}{mem:List UInt8}{gl:List Int}{st:List (Int×Int)}
structure ub(w:Yw)(P:Nat->Prop)(mv gv kv vv:Yx)(mem:List UInt8)(gl:List Int)(st:List (Int×Int)):Prop where
 m:w.ownsRow 0 5 1 mv mem.length (aP mem)
 g:w.ownsRow 0 38 1 gv gl.length (ay gl)
 k:w.ownsRow 0 2 1 kv st.length (aQ (st.map (·.1)))
 v:w.ownsRow 0 2 1 vv st.length (aQ (st.map (·.2)))
 pm:∀b,mv.ownBlock=M b->P b
 pg:∀b,gv.ownBlock=M b->P b
 pk:∀b,kv.ownBlock=M b->P b
 pv:∀b,vv.ownBlock=M b->P b
 ap:∀b,(mv.ownBlock=M b->gv.ownBlock≠M b/\kv.ownBlock≠M b/\vv.ownBlock≠M b)/\(gv.ownBlock=M b->kv.ownBlock≠M b/\vv.ownBlock≠M b)/\(kv.ownBlock=M b->vv.ownBlock≠M b)
theorem ub.kp{S:Nat->Prop}(h:ub w P mv gv kv vv mem gl st)(k:Kp S w W)(hS:∀b,P b-> ¬S b):ub W P mv gv kv vv mem gl st:=
 ⟨k.own h.m (λb a=>hS b (h.pm b a)),k.own h.g (λb a=>hS b (h.pg b a)),k.own h.k (λb a=>hS b (h.pk b a)),k.own h.v (λb a=>hS b (h.pv b a)),h.pm,h.pg,h.pk,h.pv,h.ap⟩
def QX.abQ(h:QX E (λb=>lo b\/P b) w s)(D:∀b,E.ro b->lo b)(F:∀b,P b-> ¬lo b)(d:ub w P mv gv kv vv mem gl st):
  QX E lo ((((w.setCell ⟨E.xb,2,H⟩ mv).setCell ⟨E.xb,3,H⟩ gv).setCell ⟨E.sb,0,H⟩ kv).setCell ⟨E.sb,1,H⟩ vv) {s with mem:=mem,gl:=gl,st:=st}/\Kp (iM lo) w ((((w.setCell ⟨E.xb,2,H⟩ mv).setCell ⟨E.xb,3,H⟩ gv).setCell ⟨E.sb,0,H⟩ kv).setCell ⟨E.sb,1,H⟩ vv):=by
 obtain⟨G,-,p,r,t,u,h⟩:=h;have v:=h.dY 1;have x:=h.dY 2;have f:E.xb≠E.sb:=λe=>by have:=h.ap 1 2 E.xb U (by rw[e];rfl);cases this
 have y:=h.low 1 E.xb U;have z:=h.low 2 E.sb U;obtain⟨n,g⟩:=bL ((((w.setCell ⟨E.xb,2,H⟩ mv).setCell ⟨E.xb,3,H⟩ gv).setCell ⟨E.sb,0,H⟩ kv).setCell ⟨E.sb,1,H⟩ vv);rw[<-g];have A:Kp (λb=>b=E.xb\/b=E.sb) w n:=by rw[g];exact((((Kp.refl _ w).bE (Yo U) _ _).bE (Yo U) _ _).bE (Yp U) _ _).bE (Yp U) _ _
 have B:n.heap[E.xb]?=M (Yl #[ptr E.mb,ptr E.sb,mv,gv] 196):=by rw[g];exact aB f _ (aB f _ (heap_setCell (heap_setCell v _) _))
 have C:n.heap[E.sb]?=M (Yl #[kv,vv] 96):=by rw[g];exact heap_setCell (heap_setCell (aB (WZ f) _ (aB (WZ f) _ x)) _) _
 have I:=d.kp A (λb a e=>by
  grind)
 have m:Kp (iM lo) w n:=A.mono (λb _ e c=>by
  grind)
 have J:(aP mem).length=mem.length:=by simp[aP]
 have k:∀b,P b->(∀j,(l0 E s p r t u j).az≠M b)/\ ¬lo b:=λb a=>⟨λj e=>h.low j b e (Yp a),F b a⟩
 have l:∀i b,(1<=i/\i<7)->(l0 E {s with mem:=mem,gl:=gl,st:=st} mv gv kv vv i).az=M b->(i=1/\b=E.xb)\/(i=2/\b=E.sb)\/(i=3/\mv.ownBlock=M b)\/(i=4/\gv.ownBlock=M b)\/(i=5/\kv.ownBlock=M b)\/(i=6/\vv.ownBlock=M b):=λi b hi e=>by
  rcases i with _|_|_|_|_|_|_|i
  .omega
  .exact Yo ⟨U,(Vr e).symm⟩
  .exact Yp (Yo ⟨U,(Vr e).symm⟩)
  .exact Yp (Yp (Yo ⟨U,e⟩))
  .exact Yp (Yp (Yp (Yo ⟨U,e⟩)))
  .exact Yp (Yp (Yp (Yp (Yo ⟨U,e⟩))))
  .exact Yp (Yp (Yp (Yp (Yp ⟨U,e⟩))))
  .omega
 refine⟨⟨G.low D m,D,mv,gv,kv,vv,h.free.yU (λi=>1<=i/\i<7) (A.mono (λb _ e=>?_)) (λi hi=>?_) (λi hi=>?_) (λi b hi e=>?_) (λi j b hi K e1 e2=>?_)⟩,m⟩
 .rcases e with e|e
  .exact⟨1,Vb,by rw[e];rfl⟩
  .exact⟨2,Vb,by rw[e];rfl⟩
 .unfold l0 kN;grind
 .rcases i with _|_|_|_|_|_|_|i
  .omega
  .exact B
  .exact C
  .show World.ownsRow _ _ _ _ _ _ _;grind[ub.m]
  .show World.ownsRow _ _ _ _ _ _ _;grind[jt,ub.g]
  .show World.ownsRow _ _ _ _ _ _ _;grind[jq,ub.k]
  .show World.ownsRow _ _ _ _ _ _ _;grind[jq,ub.v]
  .omega
 .rcases l i b hi e with⟨rfl,rfl⟩|⟨rfl,rfl⟩|⟨rfl,e⟩|⟨rfl,e⟩|⟨rfl,e⟩|⟨rfl,e⟩
  .exact Yo U
  .exact Yo U
  .exact Yp (k b (d.pm b e))
  .exact Yp (k b (d.pg b e))
  .exact Yp (k b (d.pk b e))
  .exact Yp (k b (d.pv b e))
 .have c:∀b,P b->b≠E.xb/\b≠E.sb:=λb a=>⟨λe=>y (Yp (e▸a)),λe=>z (Yp (e▸a))⟩
  obtain⟨e,o,a3⟩:=d.ap b;rcases l i b hi e1 with⟨rfl,q⟩|⟨rfl,q⟩|⟨rfl,q⟩|⟨rfl,q⟩|⟨rfl,q⟩|⟨rfl,q⟩<;>rcases l j b K e2 with⟨rfl,a⟩|⟨rfl,a⟩|⟨rfl,a⟩|⟨rfl,a⟩|⟨rfl,a⟩|⟨rfl,a⟩
  all_goals first
   |rfl
   |exact absurd (q.symm.trans a) f
   |exact absurd (a.symm.trans q) f
   |exact absurd q ((c b (d.pm b a)).1)
   |exact absurd q ((c b (d.pg b a)).1)
   |exact absurd q ((c b (d.pk b a)).1)
   |exact absurd q ((c b (d.pv b a)).1)
   |exact absurd q ((c b (d.pm b a)).2)
   |exact absurd q ((c b (d.pg b a)).2)
   |exact absurd q ((c b (d.pk b a)).2)
   |exact absurd q ((c b (d.pv b a)).2)
   |exact absurd a ((c b (d.pm b q)).1)
   |exact absurd a ((c b (d.pg b q)).1)
   |exact absurd a ((c b (d.pk b q)).1)
   |exact absurd a ((c b (d.pv b q)).1)
   |exact absurd a ((c b (d.pm b q)).2)
   |exact absurd a ((c b (d.pg b q)).2)
   |exact absurd a ((c b (d.pk b q)).2)
   |exact absurd a ((c b (d.pv b q)).2)
   |exact absurd a (e q).1
   |exact absurd a (e q).2.1
   |exact absurd a (e q).2.2
   |exact absurd q (e a).1
   |exact absurd q (e a).2.1
   |exact absurd q (e a).2.2
   |exact absurd a (o q).1
   |exact absurd a (o q).2
   |exact absurd q (o a).1
   |exact absurd q (o a).2
   |exact absurd a (a3 q)
   |grind
end
def qf{x2 x3 a b' c d:Yx}(h:W.heap[N]?=M (Yl #[u,z,x2,x3] T)):((((W.setCell ⟨N,0,H⟩ a).setCell ⟨N,1,H⟩ b').setCell ⟨N,2,H⟩ c).setCell ⟨N,3,H⟩ d).heap[N]?=M (Yl #[a,b',c,d] T):=heap_setCell (heap_setCell (heap_setCell (heap_setCell h a) b') c) d
def ac1(E:ew)(lo:Nat->Prop)(w:Yw)(s:Rs)(F t k:Nat)(m1:Mc):Ending->Yw->Prop:=λr w'=>Kp (iM lo) w w'/\ ∃V:Int,r= Yq (.agg #[.int O 0,.int O t,.int Yr V,.int O (F-m1.aC:Nat)])/\(t≠0->V=0/\QX E lo w' s)/\(t=0->V=(if k=0 then 0 else m1.stack.getD (m1.stack.length-1) 0)/\ ∃s',QX E lo w' s'/\s'.Up m1)
section
variable{E:ew}{lo:Nat->Prop}{w:World}{s:Rs}{m:Mc}
def BH{P:Prop}(h:P:=by
 clear hv hb hlt;go_wp2;exact⟨⟨i+1,Y,U,trivial⟩,by simp[intOf];omega⟩):P:=h
def QB{n F t k:Nat}{args:List Int}{o:Int}{T:Mc}(k4:yC E.f)(h:QX E lo w s)(hh:s.Up m)(hF:m.aC=F)(r5:F<=100000)(h3:jU w z args)(W9:∀b,Ic z args=M b->lo b)(hn:n<E.f.funcs.length)(k5:args.length=(E.f.funcs.getD n du).typ.1.length)(x8:∀i,i<args.length->((E.f.funcs.getD n du).typ.1.getD i 0).toNat=127->args.getD i 0<=4294967295)(hk:k=(E.f.funcs.getD n du).typ.2.length)
  (r6:s.mem.length<=1000000)(x9:go E.f E.B N 1 H (E.B.getD n []) 0 (Df E.f n args m)=M (t,o,T))(e0:t=0->k<=fG T):
  Yy prog 90 #[ptr E.xb,V O n,z,V O F] w (ac1 E lo w s F t k T):=by
 have h4:=h.mW;obtain⟨mv,gv,kv,vv,e6,H0,k6,k7,H1,H2,r7⟩:=h.dY;obtain⟨r8,tv,fv,y0,pg,e7,r9,y1,rfl,y2,H3⟩:=h.mod;obtain⟨a,pv,rv,lv,t0,ll,rfl,t1,c0,c1,c2,c3,k8,t2,H4,t3,y3,t4,y4,y5⟩:=H3 n hn;obtain⟨e8,e9,rfl,y6⟩:=aw.aJ H4;obtain⟨k9,s0,rfl,y7⟩:=aw.aJ k8;obtain⟨y8,y9,rfl,t5⟩:=(aw.own k6).aJ;obtain⟨z0,z1,rfl,t6⟩:=(aw.own k7).aJ;obtain⟨z2,t7,rfl,t8⟩:=h3.aJ;rw[<-k5]at y7 c0;rw[<-hk]at y6 c1;obtain⟨nf,s1⟩:=bL E.f.funcs.length;have z3:=k4.1;obtain⟨H5,H6,z4⟩:=k4.2 n;rw[<-hk]at H5;rw[<-k5]at H6;rw[<-s1]at e7 y2 hn z3;have t9:args.length<=1000:=Y
 obtain⟨W,hW⟩:=bL ((w.alloc (Yl #[V O 0,V O 0,V Yr 0,V O 0] 51)).alloc (Yl #[Q k9 args.length s0,Q e8 k e9] 190));have kW:Kp no w W:=by rw[hW];exact((Kp.refl _ _).alloc _).alloc _
 have X:∀e t,(∀q,(w.alloc (Yl e t)).cell? ⟨E.xb,q,H⟩=#[ptr E.mb,ptr E.sb,Q y8 s.mem.length y9,Q z0 s.gl.length z1][q]?)/\(∀q,(w.alloc (Yl e t)).cell? ⟨E.mb,q,H⟩=#[tv,Q _ nf y1,y0,pg][q]?)/\(w.alloc (Yl e t)).cell? ⟨a,n*4,H⟩=M _/\(w.alloc (Yl e t)).cell? ⟨a,n*4+1,H⟩=M _:=λe t=>⟨(ae (ah e6)).1,(ae (ah e7)).1,Kp.cell ((Kp.refl no w).alloc _) c0 id,Kp.cell ((Kp.refl no w).alloc _) c1 id⟩
 have z5:=λe t=>(X e t).1
 have z6:=λe t=>(X e t).2.1
 have z7:=λe t=>(X e t).2.2.1
 have z8:=λe t=>(X e t).2.2.2
 have z9:((n:Int)<0)=False:=Vc
 have u0: ¬((nf:Int)<=n):=Y
 have p0:=Z (show n<E.f.funcs.length from by rw[<-s1];exact hn);have p1:=Z (show Rp w E.sb s.st from⟨kv,vv,H0,aw.own H1,aw.own H2⟩);have w0:=Z (show W.heap.size=w.heap.size+2 from by rw[hW];simp);have w1:=Z (show ∀b,lo b-> ¬w.heap.size<=b from λb hb w9=>by obtain⟨-,-,f,g,j,l,e⟩:=h;have:=e.zV b hb;omega);have f:=Z h;clear H0 H1 H2 X e7 H3 c0 c1 c2 c3 H4 y3 y5 y4 s1 h z9;change Hid _ at hh hF e6 hW kW;replace k7:=Z k7;replace k6:=Z k6;change Hid _ at e0 x9;replace h3:=Z h3;change Hid _ at x8;replace k8:=Z k8;change Hid _ at k5 hk;go_enter func90,ntmps90;go_wp2;rw[<-hW.out];have H7:∀i,i<args.length-> ∃g l,k9=M ⟨g,l,H⟩/\W.cell? ⟨g,l+i,H⟩=M (V Ys (((E.f.funcs.getD n du).typ.1).getD i 0).toNat):=λi hi=>by
  have hb:=k8.out;rw[k5.out]at hi;obtain⟨g,l,j,e,-,x5⟩:=aq.get hb hi;cases e;exact⟨g,l,U,kW.cell x5 id⟩
 have H8:∀i,i<args.length-> ∃p r,z2=M ⟨p,r,H⟩/\W.cell? ⟨p,r+i,H⟩=M (V Yr (args.getD i 0)):=λi hi=>by
  obtain⟨p,r,j,e,-,x5⟩:=jU.get h3 (k:=i) (x:= V Yr (args.getD i 0)) (by simp[ay,Vj hi]);cases e;exact⟨p,r,U,kW.cell x5 id⟩
 have H9:W.heap[w.heap.size+1]?=M (Yl #[Q k9 args.length s0,Q e8 k e9] 190):=by
  rw[hW.out];have:=ai (w.alloc (Yl #[V O 0,V O 0,V Yr 0,V O 0] 51)) (Yl #[Q k9 args.length s0,Q e8 k e9] 190);rw[show(w.alloc _).heap.size=w.heap.size+1 by simp]at this;exact this
 have K0:W.heap[w.heap.size]?=M (Yl #[V O 0,V O 0,V Yr 0,V O 0] 51):=by rw[hW.out];exact ah (ai w _)
 obtain⟨u1,u2⟩:=ae H9;have s2:=Z (λj (k:Kp no w j)=>(ae (k.az e6 id)));clear H9 z5 z6 z7 z8;change Hid _ at H7 H8 K0;go_loopw [10] (λu wr=> ∃i:Nat,i<=args.length/\u= V O i/\W=wr) (λu _=>args.length - (intOf u).toNat);case atStart=>exact⟨0,VB _,U,U⟩
 case round=>
  obtain⟨i,hi,rfl,rfl⟩:=hrel;by_cases hlt:i<args.length
  .obtain⟨g,l,rfl,y⟩:=H7 i hlt;obtain⟨p,r,rfl,A⟩:=H8 i hlt;have hv:=x8 i hlt;have B:(i:Int)<args.length:=Y
   generalize(((E.f.funcs.getD n du).typ.1).getD i 0).toNat=b at *;generalize args.getD i 0=u at *;by_cases hb:b=127
   .have C:=hv hb;have n:((b:Int)==127)=true:=Vd
    exact BH
   .have n:((b:Int)==127)=false:=Vd
    exact BH
  .have u3: ¬((i:Int)<args.length):=Y
   clear hlt hi;have u4:(F:Int)<=100000:=Y
   obtain⟨p2,p3⟩:=s2 W kW;obtain⟨i0,p4,p5,p6,p7⟩:=info_parts lj;go_wp2_with(at_builtin;go_loud (refine bj _ U _ _ 25 U W.heap.size 5 i0 _ 1 1 underlying25 p4 p5 p6 p7 U Vb _ 0 [] U ic _ s.mem.length _ U ((aw.own k6).kp kW bW) (bV _) ?c3 ?c4 ?c5 ?_));case c3=>unfold maxLen;omega
   case c4=>omega
   intro ha K1 h1 K2 p8;obtain⟨D,G,rfl⟩:=aA h1;have K3:Kp no W K1:=(Kp.refl _ _).bS K2 (λk e=>by cases e);have K4:∀b,(Value.slice D s.mem.length G).ownBlock=M b->b<K1.heap.size:=λb hb=>(h1.lt b hb).2
   have p9:=Z (kW.trans K3);obtain⟨q0,q1⟩:=s2 K1 p9;obtain⟨j0,q2,q3,q4,q5⟩:=info_parts iq;clear K2 p8 p2 p3;change Hid _ at K3;replace h1:=Z h1;go_wp2_with(at_builtin;go_loud (refine bj _ U _ _ 53 U W.heap.size 38 j0 _ 1 8 underlying53 q2 q3 q4 q5 U Vb _ 0 [] U ic _ s.gl.length _ U ((aw.own k7).kp p9 bW) (dX _) ?e3 ?e4 ?e5 ?_));case e3=>have:=hh.Bw;unfold maxLen;omega
   case e4=>have:=hh.Bw;omega
   case e5=>exact K3.size
   intro hc K5 L K6 K7;obtain⟨I,J,rfl⟩:=aA L;have W6:Kp no K1 K5:=(Kp.refl _ _).bS K6 (λk e=>by cases e);have s3:∀b,(Value.slice I s.gl.length J).ownBlock=M b->K1.heap.size<=b/\b<K5.heap.size:=λb hb=>⟨by
    rcases K7 with e|e
    .rw[e]at hb;cases hb
    .rw[e]at hb;cases hb;exact VP _,(L.lt b hb).2⟩
   have h5:=Z (W6.own h1 bW);have W7:=Z (p9.trans W6);obtain⟨q6,q7⟩:=s2 K5 W7;have s4:=Z (K3.trans W6);clear K6 K7 W6 q0 q1 h1;replace L:=Z L;go_wp2_with fail;refine(Kj (p1.kp W7) (cj hh.k8)).mono ?_;rintro r p⟨u5,u6,rfl,h6,h7,K8,w2⟩;obtain⟨l,n,rfl⟩:=aA h6;obtain⟨u,y,rfl⟩:=aA h7;have s5:∀b,(Value.slice l s.st.length n).ownBlock=M b->K5.heap.size<=b:=aK h6;have s6:∀b,(Value.slice u s.st.length y).ownBlock=M b->K5.heap.size<=b:=aK h7;have W8:=Z (W7.trans w2);have s8:=Z (s4.trans w2);have q8:=Z (show ub p (λb=>W.heap.size<=b/\b<p.heap.size+1) _ _ _ _ s.mem s.gl s.st from
    ⟨G7 (w2.own h5 bW),G7 (w2.own L bW),G7 h6,G7 h7,
     λb hb=>⟨aK h5 b hb,by have:=K4 b hb;have:=W7.size;have:=w2.size;have:=(L.lt);have g:=K3.size;have:=(Kp.size w2);have h9:=(w2.own h5 bW).lt b hb;omega⟩,
     λb hb=>⟨aK L b hb,by have h9:=(w2.own L bW).lt b hb;omega⟩,
     λb hb=>⟨rq (s5 b hb) s4.size,by have h9:=h6.lt b hb;omega⟩,
     λb hb=>⟨rq (s6 b hb) s4.size,by have h9:=h7.lt b hb;omega⟩,
     λb=>⟨λe1=>⟨λe2=>rq (K4 b e1) ((s3 b e2).1),λe2=>by have h9:=h5.lt b e1;have:=s5 b e2;omega,λe2=>by have h9:=h5.lt b e1;have:=s6 b e2;omega⟩,λe1=>⟨λe2=>rq ((s3 b e1).2) (s5 b e2),λe2=>rq ((s3 b e1).2) (s6 b e2)⟩,λe1=>K8 b e1⟩⟩)
   clear w2 h6 h7 K8 q6 q7;have kS:Kp no w (p.alloc (Yl #[Q l s.st.length n,Q u s.st.length y] 96)):=W8.alloc _;have hG:=(f.guard kW _ (λb hb=>hb)).guard (s8.alloc (Yl #[Q l s.st.length n,Q u s.st.length y] 96)) (λb=>W.heap.size<=b/\b<p.heap.size+1) (λb hb=>⟨hb.1,by simp;exact hb.2⟩);have hE:=hG.enter (rb:=p.heap.size+1) ((Kp.refl no _).alloc _) Vc (by
    have:=ai (p.alloc (Yl #[Q l s.st.length n,Q u s.st.length y] 96)) (Yl #[ptr E.xb,V O F,V O 0,V O 0,V O 0] 242);rw[show(p.alloc _).heap.size=p.heap.size+1 by simp]at this;exact this)
   have q9:=Z (JK (d:=0) (Qz (E:={E with rb:=p.heap.size+1,F:=F}) k4 (by show F<=1000000;omega) N) hE ⟨hh.mem,hh.gl,hh.bG,hh.k8,hh.Bw⟩ rfl U Vb (by show F=0+m.aC;have:=hF.out;omega) (cj hF.out) (h3.kp (kS.alloc _) bW) (λb hb=> Yo (Yo (W9 b hb))) p0 k4.1 H6 z4 hk H5 x9 e0);have r0:=Z (ah (o:= Yl #[ptr E.xb,V O F,V O 0,V O 0,V O 0] 242) (ai p (Yl #[Q l s.st.length n,Q u s.st.length y] 96)));clear hG hE;change Hid _ at kS;go_wp2_with fail;refine q9.mono ?_;rintro r w7⟨s9,s7,u7,n7,u8,rfl,K9,w3,x0,w4,w5⟩;have h8:w7.heap[w.heap.size]?=M _:=s9.az (((s8.alloc _).alloc _).az K0 id) (λh=>h (Yo (Yp ⟨cQ,cj w0.out⟩)));have w6:=s9.az r0 (λh=>h (Yp ⟨s8.size,Y⟩));have R:=K9.run.1;dsimp only at R;rw[w3]at R;have w8:s7.used=F-T.aC/\T.aC<=F:=by have:F=s7.used+T.aC:=w4;omega
   rw[w8.1]at R;obtain⟨r1,u9⟩:=ae R;obtain⟨v0,v1⟩:=ae h8;have r2:=Z ((kS.alloc _).any.trans (fP (fP s9)));have x1:=Z (QX.env (K9.exit));have k0:=Z h8;have W0:=Z R;have v2:w.heap.size≠p.heap.size+1:=cj W8.size;obtain⟨g,hU⟩:=bL (F-T.aC);rw[<-hU]at r1;change Hid _ at hU;by_cases S:t=0
   .obtain⟨C,rfl,h2⟩:=w5 S;have W2:(t:Int)=0:=Y
    have B:=Z S;have x2:=Z C;have x3:=Z (x1.free (λb hb=> Yo (h4 b hb)));by_cases A:n7=0
    .have x6:(n7:Int)=0:=Y
     clear s9 K9 x0 w4 w5 w8 w6 h8 R C h2 w3 S;replace A:=Z A;go_wp2;have h9:=qf (a:= V O 0) (b':= V O 0) (c:= V Yr 0) (d:= V O g) k0;have W1:Kp _ w7 ((((w7.setCell ⟨w.heap.size,0,H⟩ (V O 0)).setCell ⟨w.heap.size,1,H⟩ (V O 0)).setCell ⟨w.heap.size,2,H⟩ (V Yr 0)).setCell ⟨w.heap.size,3,H⟩ (V O g)):=((((Kp.refl _ _).bK _ _).bK _ _).bK _ _).bK _ _;obtain⟨k1,-⟩:=ae h9;refine bodyPost_ret (v:=.agg #[V O 0,V O 0,V Yr 0,V O g]) (by simp[results,results90,go_sem,k1]) U ?_;exact⟨(((r2.cq cQ _ _).cq cQ _ _).cq cQ _ _).cq cQ _ _,0,by rw[hU.out,B.out];rfl,λe=>absurd B e,λ_=>⟨by rw[Vi A.out],s7,x3.QA (W1.mono (λb _ (e:b=_)=>by have:=w0.out;subst e;exact⟨cQ,Y⟩)) h4 (λb hb hl=>w1 b hl hb.1),x2⟩⟩
    .have x4:n7=1:=Y
     have x7:1<=T.stack.length:=by have W5:=e0 S;have:fG T<=T.stack.length:=Yi _ _;omega
     obtain⟨al,ol,cl,w9,-,k2⟩:=aw.get h2 (k:=0) (x:= V Yr (T.stack.getD (T.stack.length-1) 0)) (by
      rw[x4,VY Y];simp[ay,Vj (show T.stack.length-1<T.stack.length by omega)])
     cases w9;rw[VU]at k2;have x6:(0:Int)<n7:=Y
     obtain⟨vx,k3⟩:=bL (T.stack.getD (T.stack.length-1) 0);rw[<-k3]at k2;have h0:∀j,Kp no w7 j->(∀q,j.cell? ⟨p.heap.size+1,q,H⟩=#[ptr E.xb,V O F,V O g,V O t,V O s7.d][q]?)/\j.cell? ⟨al,ol,H⟩=M _/\(∀q,j.cell? ⟨w.heap.size,q,H⟩=#[V O 0,V O 0,V Yr 0,V O 0][q]?)/\(∀q,j.frozen? ⟨w.heap.size,q,H⟩=Yj):=λj k=>⟨by rw[hU.out];exact(ae (k.az W0 id)).1,k.cell k2 id,(ae (k.az k0 id)).1,(ae (k.az k0 id)).2⟩
     have W3:0<n7:=Y
     clear s9 K9 x0 w4 w5 w8 w6 h8 R C h2 w3 S x4 x7;change Hid _ at k3 h0;replace A:=Z A;go_wp2_with fail;refine rj 8 9 (λj=>(∀q,j.cell? ⟨p.heap.size+1,q,H⟩=#[ptr E.xb,V O F,V O g,V O t,V O s7.d][q]?)/\j.cell? ⟨al,ol,H⟩=M (V Yr vx)/\(∀q,j.cell? ⟨w.heap.size,q,H⟩=#[V O 0,V O 0,V Yr 0,V O 0][q]?)/\(∀q,j.frozen? ⟨w.heap.size,q,H⟩=Yj)) ?hS λhS=>?_
     case hS=>exact h0 _ fL
     refine tj 0 ?_;iterate 7 refine tn ?_
     refine ej 8 λK hK=>?_
     go_simp;refine hK _ _ ?_;clear hK K;refine dj ?_;clear hS h0;go_wp2;have h9:=qf (a:= V O 0) (b':= V O 0) (c:= V Yr vx) (d:= V O g) k0;have W1:Kp _ w7 ((((w7.setCell ⟨w.heap.size,0,H⟩ (V O 0)).setCell ⟨w.heap.size,1,H⟩ (V O 0)).setCell ⟨w.heap.size,2,H⟩ (V Yr vx)).setCell ⟨w.heap.size,3,H⟩ (V O g)).drew:=(((((Kp.refl _ _).bK _ _).bK _ _).bK _ _).bK _ _).drew;obtain⟨k1,-⟩:=ae (w:=((((w7.setCell ⟨w.heap.size,0,H⟩ (V O 0)).setCell ⟨w.heap.size,1,H⟩ (V O 0)).setCell ⟨w.heap.size,2,H⟩ (V Yr vx)).setCell ⟨w.heap.size,3,H⟩ (V O g)).drew) h9;refine bodyPost_ret (v:=.agg #[V O 0,V O 0,V Yr vx,V O g]) (by simp[results,results90,go_sem,k1]) U ?_;exact⟨((((r2.cq cQ _ _).cq cQ _ _).cq cQ _ _).cq cQ _ _).drew,vx,by rw[hU.out,B.out];rfl,λe=>absurd B e,λ_=>⟨by rw[Va A.out,k3.out],s7,x3.QA (W1.mono (λb _ (e:b=_)=>by have:=w0.out;subst e;exact⟨cQ,Y⟩)) h4 (λb hb hl=>w1 b hl hb.1),x2⟩⟩
   .have v3:((t:Int)==0)=false:=Vd
    obtain⟨v4,v5,x2,h2,x3,W2,-,-,-,-,x4⟩:=x1.dY;obtain⟨-,-,hd,he,hf,hg,k2⟩:=K9;have W3:p.heap.size+1≠E.xb:=λe=>by have:=k2.ap 0 1 _ U (by rw[e];rfl);cases this
    have W4:p.heap.size+1≠E.sb:=λe=>by have:=k2.ap 0 2 _ U (by rw[e];rfl);cases this
    have nb:∀b,w.heap.size<=b->b<p.heap.size+1->b≠E.xb/\b≠E.sb:=λb W5 x5=>by
     have A:(lo b\/(w.heap.size<=b/\b<W.heap.size))\/(W.heap.size<=b/\b<p.heap.size+1):=by
      rcases VE b W.heap.size with B|B
      .exact Yo (Yp ⟨W5,B⟩)
      .exact Yp ⟨B,x5⟩
     exact⟨λe=>k2.low 1 E.xb U (e▸A),λe=>k2.low 2 E.sb U (e▸A)⟩
    have n0:=nb w.heap.size cQ (cj W8.size);have n1:=nb p.heap.size W8.size Y;have r3:=Z (q8.kp (((Kp.refl no p).alloc _).alloc (Yl #[ptr E.xb,V O F,V O 0,V O 0,V O 0] 242)) bW|>.kp s9 (λb hb hn=>hn (Yp hb)));obtain⟨v6,v7⟩:=ae x3;obtain⟨A,X⟩:=bL ((w7.setCell ⟨E.xb,2,H⟩ (Q D s.mem.length G)).setCell ⟨E.xb,3,H⟩ (Q I s.gl.length J));have ax:A.heap[E.xb]?=M (Yl #[ptr E.mb,ptr E.sb,Q D s.mem.length G,Q I s.gl.length J] 196):=by rw[X];exact heap_setCell (heap_setCell x3 _) _
    have k3:A.heap[E.sb]?=M (Yl #[x2,h2] 96):=by rw[X];exact aB (WZ x4) _ (aB (WZ x4) _ W2)
    have w9:A.heap[p.heap.size]?=M (Yl #[Q l s.st.length n,Q u s.st.length y] 96):=by rw[X];exact aB n1.1 _ (aB n1.1 _ w6)
    have h0:∀j,Kp no A j->(∀q,j.cell? ⟨E.xb,q,H⟩=#[ptr E.mb,ptr E.sb,Q D s.mem.length G,Q I s.gl.length J][q]?)/\(∀q,j.cell? ⟨E.sb,q,H⟩=#[x2,h2][q]?)/\(∀q,j.frozen? ⟨E.sb,q,H⟩=Yj)/\(∀q,j.cell? ⟨p.heap.size,q,H⟩=#[Q l s.st.length n,Q u s.st.length y][q]?):=λj k=>⟨(ae (k.az ax id)).1,(ae (k.az k3 id)).1,(ae (k.az k3 id)).2,(ae (k.az w9 id)).1⟩
    clear s9 x0 w4 w5 w8 w6 h8 R w3 x3 W2 k2 nb;change Hid _ at X ax k3 w9 h0;replace S:=Z S;go_wp2_with fail;rw[<-X.out];refine rj 8 9 (λj=>(∀q,j.cell? ⟨E.xb,q,H⟩=#[ptr E.mb,ptr E.sb,Q D s.mem.length G,Q I s.gl.length J][q]?)/\(∀q,j.cell? ⟨E.sb,q,H⟩=#[x2,h2][q]?)/\(∀q,j.frozen? ⟨E.sb,q,H⟩=Yj)/\(∀q,j.cell? ⟨p.heap.size,q,H⟩=#[Q l s.st.length n,Q u s.st.length y][q]?)) ?hS λhS=>?_
    case hS=>exact h0 _ fL
    refine tj 0 ?_;iterate 7 refine tn ?_
    refine ej 8 λK hK=>?_
    go_simp;refine hK _ _ ?_;clear hK K;refine dj ?_;obtain⟨B,hB⟩:=bL ((A.setCell ⟨E.sb,0,H⟩ (Q l s.st.length n)).drew);rw[<-hB];have bx:B.heap[E.xb]?=M (Yl #[ptr E.mb,ptr E.sb,Q D s.mem.length G,Q I s.gl.length J] 196):=by rw[hB];exact aB x4 _ ax
    have x5:B.heap[E.sb]?=M (Yl #[Q l s.st.length n,h2] 96):=by rw[hB];exact heap_setCell k3 _
    have W5:B.heap[p.heap.size]?=M (Yl #[Q l s.st.length n,Q u s.st.length y] 96):=by rw[hB];exact aB n1.2 _ w9
    have x6:∀j,Kp no B j->(∀q,j.cell? ⟨E.xb,q,H⟩=#[ptr E.mb,ptr E.sb,Q D s.mem.length G,Q I s.gl.length J][q]?)/\(∀q,j.cell? ⟨E.sb,q,H⟩=#[(Q l s.st.length n),h2][q]?)/\(∀q,j.frozen? ⟨E.sb,q,H⟩=Yj)/\(∀q,j.cell? ⟨p.heap.size,q,H⟩=#[Q l s.st.length n,Q u s.st.length y][q]?):=λj k=>⟨(ae (k.az bx id)).1,(ae (k.az x5 id)).1,(ae (k.az x5 id)).2,(ae (k.az W5 id)).1⟩
    clear bx x5 W5 hS h0 ax k3 w9;change Hid _ at x6 hB;go_wp2_with fail;refine rj 8 9 (λj=>(∀q,j.cell? ⟨E.xb,q,H⟩=#[ptr E.mb,ptr E.sb,Q D s.mem.length G,Q I s.gl.length J][q]?)/\(∀q,j.cell? ⟨E.sb,q,H⟩=#[(Q l s.st.length n),h2][q]?)/\(∀q,j.frozen? ⟨E.sb,q,H⟩=Yj)/\(∀q,j.cell? ⟨p.heap.size,q,H⟩=#[Q l s.st.length n,Q u s.st.length y][q]?)) ?hS λhS=>?_
    case hS=>exact x6 _ fL
    refine tj 0 ?_;iterate 7 refine tn ?_
    refine ej 8 λK hK=>?_
    go_simp;refine hK _ _ ?_;clear hK K;refine dj ?_;obtain⟨C,hC⟩:=bL ((B.setCell ⟨E.sb,1,H⟩ (Q u s.st.length y)).drew);rw[<-hC];obtain⟨qx,qk⟩:=QX.abQ (lo:=λb=>lo b\/(w.heap.size<=b/\b<W.heap.size)) (P:=λb=>W.heap.size<=b/\b<p.heap.size+1) x1 (λb hb=> Yo (h4 b hb)) (λb hb hl=>by
     rcases hl with hl|hl
     .exact w1 b hl (cj kW.size)
     .omega) r3
    have kR:Kp no ((((w7.setCell ⟨E.xb,2,H⟩ (Q D s.mem.length G)).setCell ⟨E.xb,3,H⟩ (Q I s.gl.length J)).setCell ⟨E.sb,0,H⟩ (Q l s.st.length n)).setCell ⟨E.sb,1,H⟩ (Q u s.st.length y)) C:=by rw[hC,hB.out,X.out];exact⟨U,U,U,cQ,λ_ _ _=>rfl⟩
    have r4:=Z ((qx.quiet kR).like (s':=s) U U U);have KC:=Z (qk.then kR);have cr:C.heap[p.heap.size+1]?=M (Yl #[ptr E.xb,V O F,V O g,V O t,V O s7.d] 242):=by rw[hC,hB.out,X.out,hU.out];exact aB W4 _ (aB W4 _ (aB W3 _ (aB W3 _ W0)))
    have cp:C.heap[w.heap.size]?=M (Yl #[V O 0,V O 0,V Yr 0,V O 0] 51):=by rw[hC,hB.out,X.out];exact aB n0.2 _ (aB n0.2 _ (aB n0.1 _ (aB n0.1 _ k0)))
    have x7:∀j,Kp no C j->(∀q,j.cell? ⟨p.heap.size+1,q,H⟩=#[ptr E.xb,V O F,V O g,V O t,V O s7.d][q]?)/\(∀q,j.cell? ⟨w.heap.size,q,H⟩=#[V O 0,V O 0,V Yr 0,V O 0][q]?)/\(∀q,j.frozen? ⟨w.heap.size,q,H⟩=Yj):=λj k=>⟨(ae (k.az cr id)).1,(ae (k.az cp id)).1,(ae (k.az cp id)).2⟩
    obtain⟨v8,v9⟩:=ae cp;clear hC qx qk kR cr hS x6 hB X;change Hid _ at x7 cp;go_wp2_with fail;refine rj 9 10 (λj=>(∀q,j.cell? ⟨p.heap.size+1,q,H⟩=#[ptr E.xb,V O F,V O g,V O t,V O s7.d][q]?)/\(∀q,j.cell? ⟨w.heap.size,q,H⟩=#[V O 0,V O 0,V Yr 0,V O 0][q]?)/\(∀q,j.frozen? ⟨w.heap.size,q,H⟩=Yj)) ?hS λhS=>?_
    case hS=>exact x7 _ fL
    refine tj 0 ?_;iterate 8 refine tn ?_
    refine ej 9 λK hK=>?_
    go_simp;refine hK _ _ ?_;clear hK K;refine dj ?_;clear hS x7;go_wp2;have h9:=qf (a:= V O 0) (b':= V O t) (c:= V Yr 0) (d:= V O g) cp;have W1:Kp _ C ((((C.setCell ⟨w.heap.size,0,H⟩ (V O 0)).setCell ⟨w.heap.size,1,H⟩ (V O t)).setCell ⟨w.heap.size,2,H⟩ (V Yr 0)).setCell ⟨w.heap.size,3,H⟩ (V O g)).drew:=(((((Kp.refl _ _).bK _ _).bK _ _).bK _ _).bK _ _).drew;obtain⟨k1,-⟩:=ae (w:=((((C.setCell ⟨w.heap.size,0,H⟩ (V O 0)).setCell ⟨w.heap.size,1,H⟩ (V O t)).setCell ⟨w.heap.size,2,H⟩ (V Yr 0)).setCell ⟨w.heap.size,3,H⟩ (V O g)).drew) h9;refine bodyPost_ret (v:=.agg #[V O 0,V O t,V Yr 0,V O g]) (by simp[results,results90,go_sem,k1]) U ?_;have j:=r2.trans (fP KC);exact⟨((((j.cq cQ _ _).cq cQ _ _).cq cQ _ _).cq cQ _ _).drew,0,by rw[hU.out],λ_=>⟨U,r4.QA (W1.mono (λb _ (e:b=_)=>by have:=w0.out;subst e;exact⟨cQ,Y⟩)) h4 (λb hb hl=>w1 b hl hb.1)⟩,λe=>absurd e S⟩
end
def QC(w:Yw)(e:Int):Ending->Yw->Prop:=λr w'=>r= Yq (.agg #[V O e,V O 0,V Yr 0,V O 0])/\Kp no w w'
section
variable{E:ew}{lo:Nat->Prop}{w:World}{s:Rs}
def TI(h:QX E lo w s){f:Int}(a:f<0\/(E.f.funcs.length:Int)<=f)(e:Yx)(F:Int):Yy prog 90 #[ptr E.xb,V O f,e,V O F] w (QC w 4):=by
 obtain⟨p,gv,q,r,b,-⟩:=h.dY;obtain⟨g,u,x,i,y,c,j,k,rfl,l,-⟩:=h.mod;have m:=λd t=>(ae (ah (o:= Yl d t) b)).1
 have n:=λd t=>(ae (ah (o:= Yl d t) c)).1
 generalize E.f.funcs.length=z at *;rcases a with a|a
 all_goals
  go_enter func90,ntmps90;go_wp2;refine bodyPost_ret (v:=.agg #[V O 4,V O 0,V Yr 0,V O 0]) (by simp[results,results90,go_sem]) U ?_;exact⟨U,oO⟩
structure ac2(E:ew)(w:Yw)(n:Nat)(A:Nat)(tv jB pg:Yx)(a nf abS:Nat)(adp adr:Option Addr)(k abT ac3:Nat)(mv gv:Yx):Prop where
 xb:w.heap[E.xb]?=M (Yl #[ptr E.mb,ptr E.sb,mv,gv] 196)
 mb:w.heap[E.mb]?=M (Yl #[tv,Q (M ⟨a,0,H⟩) nf abS,jB,pg] 149)
 c0:w.cell? ⟨a,n*4,H⟩=M (Q adp A abT)
 c1:w.cell? ⟨a,n*4+1,H⟩=M (Q adr k ac3)
 le:n<nf
 cap:nf<=abS
 nf6:nf<=1000000
 row:aq w (Q adp A abT) (E.f.funcs.getD n du).typ.1
 len:A=(E.f.funcs.getD n du).typ.1.length
def QX.head(h:QX E lo w s)(j:yC E.f)(t:N<E.f.funcs.length):∃A l b m a i c d e k f g n gv,ac2 E w N A l b m a i c d e k f g n gv:=by
 obtain⟨n,gv,D,F,k,-⟩:=h.dY;obtain⟨u,l,G,b,m,o,v,c,rfl,p,q⟩:=h.mod;obtain⟨a,I,J,K,x,L,rfl,y,z,c1,c2,c3,i,A,r,-⟩:=q N t;obtain⟨e,g,rfl,B⟩:=aw.aJ r;obtain⟨d,f,rfl,C⟩:=aw.aJ i;exact⟨_,l,b,m,a,_,c,d,e,_,f,g,n,gv,k,o,z,c1,t,p,j.1,i,U⟩
def TJ(h:QX E lo w s)(d:yC E.f)(l:N<E.f.funcs.length){e:Option Addr}{L capa:Nat}(m:L≠(E.f.funcs.getD N du).typ.1.length)(F:Int):Yy prog 90 #[ptr E.xb,V O N,Q e L capa,V O F] w (QC w 5):=by
 obtain⟨A,B,n,C,a,D,p,f,g,k,i,j,G,gv,c⟩:=h.head d l;have q:=λb t=>(ae (ah (o:= Yl b t) c.xb)).1
 have r:=λb t=>(ae (ah (o:= Yl b t) c.mb)).1
 have u:=λb t=>Kp.cell ((Kp.refl no w).alloc (Yl b t)) c.c0 id
 have x:=λb t=>Kp.cell ((Kp.refl no w).alloc (Yl b t)) c.c1 id
 have y:=c.le;have t:L≠A:=by rw[c.len];exact m
 have z:((L:Int)==(A:Int))=false:=Vd
 go_enter func90,ntmps90;go_wp2;obtain⟨b,-⟩:=ae (ah (o:= Yl #[Q f A i,Q g k j] 190) (ai w (Yl #[V O 5,V O 0,V Yr 0,V O 0] 51)));refine bodyPost_ret (v:=.agg #[V O 5,V O 0,V Yr 0,V O 0]) (by simp[results,results90,go_sem,b]) U ?_;exact⟨U,((Kp.refl _ _).alloc _).alloc _⟩
def kY(ts:List UInt8)(args:List Int)(i:Nat):Prop:=(ts.getD i 0).toNat=127/\4294967295<args.getD i 0
def QD(h:QX E lo w s)(G:yC E.f)(hn:N<E.f.funcs.length){av:Yx}{args:List Int}(p:jU w av args)(f:args.length=(E.f.funcs.getD N du).typ.1.length){F e:Int}{j:Nat}(hj:j<=args.length)(I:∀i,i<j-> ¬kY (E.f.funcs.getD N du).typ.1 args i)
  (hc:(j<args.length/\kY (E.f.funcs.getD N du).typ.1 args j/\e=5)\/(j=args.length/\(F<0\/100000<F)/\e=6)):Yy prog 90 #[ptr E.xb,V O N,av,V O F] w (QC w e):=by
 obtain⟨A,tv,h6,pg,a,nf,h7,g,B,k,l,C,mv,gv,m⟩:=h.head G hn;have h8:=λb t=>(ae (ah (o:= Yl b t) m.xb)).1
 have k0:=λb t=>(ae (ah (o:= Yl b t) m.mb)).1
 have h1:=λb t=>Kp.cell ((Kp.refl no w).alloc (Yl b t)) m.c0 id
 have k1:=λb t=>Kp.cell ((Kp.refl no w).alloc (Yl b t)) m.c1 id
 have k2:=m.le;obtain⟨k3,h2,k4⟩:=G.2 N;rw[<-f]at h2;obtain⟨h3,k5,rfl,k6⟩:=p.aJ;have J:A=args.length:=by rw[m.len,f]
 have k7:args.length<=l:=by obtain⟨x,y,z,q⟩:=aw.aJ m.row;injection z with _ _ z3;subst z3;rw[f];exact q
 have K:=m.row;rw[J]at h1;obtain⟨W,L⟩:=bL ((w.alloc (Yl #[V O 0,V O 0,V Yr 0,V O 0] 51)).alloc (Yl #[Q g args.length l,Q B k C] 190));have kW:Kp no w W:=by rw[L];exact((Kp.refl _ _).alloc _).alloc _
 have P:∀i,i<args.length-> ∃R S,g=M ⟨R,S,H⟩/\W.cell? ⟨R,S+i,H⟩=M (V Ys (((E.f.funcs.getD N du).typ.1).getD i 0).toNat):=λi hi=>by
  rw[f]at hi;obtain⟨R,S,b,e,-,n⟩:=aq.get K hi;injection e with e1 _ _
  exact⟨R,S,e1,kW.cell n id⟩
 have T:∀i,i<args.length-> ∃X oa,h3=M ⟨X,oa,H⟩/\W.cell? ⟨X,oa+i,H⟩=M (V Yr (args.getD i 0)):=λi hi=>by
  obtain⟨X,oa,b,e,-,n⟩:=jU.get p (k:=i) (x:= V Yr (args.getD i 0)) (by simp[ay,Vl,Vj hi]);cases e;exact⟨X,oa,U,kW.cell n id⟩
 have h0:W.heap[w.heap.size+1]?=M (Yl #[Q g args.length l,Q B k C] 190):=by
  rw[L];have:=ai (w.alloc (Yl #[V O 0,V O 0,V Yr 0,V O 0] 51)) (Yl #[Q g args.length l,Q B k C] 190);rw[show(w.alloc (Yl #[V O 0,V O 0,V Yr 0,V O 0] 51)).heap.size=w.heap.size+1 by simp]at this;exact this
 have n:W.heap[w.heap.size]?=M (Yl #[V O 0,V O 0,V Yr 0,V O 0] 51):=by rw[L];exact ah (ai w _)
 have k8: ¬((nf:Int)<=(N:Int)):=Y
 clear h m K hn f J p;change Hid _ at L P T n hc I h0;go_enter func90,ntmps90;go_wp2;rw[<-L.out];obtain⟨k9,w0⟩:=ae h0;obtain⟨w1,w2⟩:=ae n;go_loopw [10] (λb wr=> ∃i:Nat,i<=j/\b= V O i/\W=wr) (λb _=>args.length - (intOf b).toNat);case atStart=>exact⟨0,VB _,U,U⟩
 case round=>
  obtain⟨i,hi,rfl,rfl⟩:=hrel;have fW:∀b:Int,e=b-> ∀r u,(r=Ending.returned (.agg #[V O b,V O 0,V Yr 0,V O 0])/\Kp no w u)->QC w e r u:=λb t r u h=>by subst t;exact h
  by_cases e:i<args.length
  .obtain⟨R,S,rfl,w3⟩:=P i e;obtain⟨X,oa,rfl,w4⟩:=T i e;have w5:(i:Int)<(args.length:Int):=Y
   by_cases h4:i<j
   .have D:=I i h4;unfold kY at D;generalize(((E.f.funcs.getD N du).typ.1).getD i 0).toNat=b at *;generalize args.getD i 0=u at *;by_cases r:b=127
    .have hu:u<=4294967295:=by have:=λh=>D ⟨r,h⟩;omega
     have hq:((b:Int)==127)=true:=Vd
     go_wp2;exact⟨⟨i+1,Y,U,trivial⟩,by simp[intOf];omega⟩
    .have hq:((b:Int)==127)=false:=Vd
     go_wp2;exact⟨⟨i+1,Y,U,trivial⟩,by simp[intOf];omega⟩
   .obtain rfl :i=j:=Y
    rcases hc.out with⟨-,D,t⟩|⟨h5,-⟩
    .unfold kY at D;generalize(((E.f.funcs.getD N du).typ.1).getD i 0).toNat=b at *;generalize args.getD i 0=u at *;have hq:((b:Int)==127)=true:=by have:=D.1;simp;omega
     have hu:=D.2;have FN:=Z (fW 5 t);go_wp2;have h9:=qf (a:= V O 5) (b':= V O 0) (c:= V Yr 0) (d:= V O 0) n;obtain⟨r,-⟩:=ae h9;refine bodyPost_ret (v:=.agg #[V O 5,V O 0,V Yr 0,V O 0]) (by simp[results,results90,go_sem,r]) U ?_;exact FN _ _ ⟨U,(((kW.cq cQ _ _).cq cQ _ _).cq cQ _ _).cq cQ _ _⟩
    .omega
  .have b: ¬((i:Int)<(args.length:Int)):=Y
   rcases hc.out with⟨h5,-⟩|⟨h5,hF,t⟩
   .omega
   .have FN:=Z (fW 6 t);clear e hi fW t hc h5;rcases hF with hF|hF
    all_goals
     go_wp2;have h9:=qf (a:= V O 6) (b':= V O 0) (c:= V Yr 0) (d:= V O 0) n;obtain⟨r,-⟩:=ae h9;refine bodyPost_ret (v:=.agg #[V O 6,V O 0,V Yr 0,V O 0]) (by simp[results,results90,go_sem,r]) U ?_;exact FN _ _ ⟨U,(((kW.cq cQ _ _).cq cQ _ _).cq cQ _ _).cq cQ _ _⟩
end
end
section
open Go.RowKit
inductive Wt
 |none
 |dT (b:Nat) (cs:Array Value) (t:TypeId)
 |row (t:TypeId) (z:Nat) (v:Value) (n:Nat) (xs:List Value)
def Wt.az:Wt->Option Nat
 |.none=>Option.none
 |.dT b _ _=>M b
 |.row _ _ v _ _=>v.ownBlock
def Wt.At(w:Yw):Wt->Prop
 |.none=>True
 |.dT b cs t=>w.heap[b]?=M (Yl cs t)
 |.row t z v n xs=>w.ownsRow 0 t z v n xs
structure Hw{ι:Type}(w:Yw)(I:ι->Wt):Prop where
 dY:∀i,(I i).At w
 ap:∀i j b,(I i).az=M b->(I j).az=M b->i=j
def RO{ι:Type}(w:Yw)(X:Nat->Prop)(I:ι->Wt):Nat->Prop:=λb=>b<w.heap.size/\ ¬X b/\ ∀i,(I i).az≠M b
section
variable{ι:Type}{S X X':Nat->Prop}{w w':World}{I I':ι->Wt}{x:Wt}{b:Nat}
theorem Wt.At.kp(h:x.At w)(k:Kp S w w')(a:∀b,x.az=M b-> ¬S b):x.At w':=by
 cases x with
 |none=>trivial
 |dT b c t=>exact k.az h (a b U)
 |row t z v n c=>exact k.own h a
theorem Wt.At.lt(h:x.At w)(a:x.az=M b):b<w.heap.size:=by
 cases x with
 |none=>cases a
 |dT b c t=>cases a;exact au h
 |row t z v n c=>exact bR h a
abbrev ac7(I:ι->Wt)(J:ι->Prop):Nat->Prop:=λb=> ∃i,J i/\(I i).az=M b
def Hw.yU(h:Hw w I)(J:ι->Prop)(k:Kp S w w')(hS:∀b i,S b->(I i).az=M b->J i)(hI:∀i,¬J i->I' i=I i)(g:∀i,J i->(I' i).At w')
  (d:∀i b,J i->(I' i).az=M b->ac7 I J b\/ ∀j,(I j).az≠M b)(l:∀i j b,J i->J j->(I' i).az=M b->(I' j).az=M b->i=j):Hw w' I':=by
 have e:∀i j b,J i-> ¬J j->(I' i).az=M b->(I j).az=M b->False:=λi j b hi a h1 h2=>by
  rcases d i b hi h1 with⟨m,c,f⟩|c
  .exact a (h.ap _ _ _ h2 f▸c)
  grind
 refine⟨λj=>?_,λj1 j2 b h1 h2=>?_⟩
 .by_cases a:J j
  .grind
  .rw[hI j a];exact(h.dY j).kp k (λb h1 h2=>a (hS b j h2 h1))
 .exact zX
theorem Hw.new(h:Hw w I)(a:w.heap.size<=b)(j:ι):(I j).az≠M b:=λe=>cj ((h.dY j).lt e)
def Hw.quiet(h:Hw w I)(k:Kp S w w')(hS:∀b i,S b->(I i).az≠M b):Hw w' I:=⟨λj=>(h.dY j).kp k (λb a c=>hS b j c a),h.ap⟩
theorem RO.on(a:w.heap.size<=w'.heap.size)(c:∀i b,(I' i).az=M b->(∃j,(I j).az=M b)\/X b\/w.heap.size<=b)(d:∀b,X' b->X b\/(∃j,(I j).az=M b)\/w.heap.size<=b)(b:Nat)(h:RO w X I b):RO w' X' I' b:=by
 obtain⟨f,g,j⟩:=h;refine⟨Y,λk=>?_,λi e=>?_⟩<;>grind
theorem RO.kp(k:Kp S w w')(hS:∀b,b<w.heap.size->S b->X b\/ ∃j,(I j).az=M b):Kp (fy (RO w X I)) w w':=k.mono (λb c d a=>by
 rcases hS b c d with h|⟨j,h⟩
 .exact a.2.1 h
 .exact a.2.2 j h)
end
def abL(E:Rf.PE)(a:Nat)(b:Rf.PS)(h:Rf.bn (Rf.sM E a b).2=Yj):(Rf.sM E a b).1<2^a:=by
 unfold Rf.sM at h⊢;generalize(if a=64 then 10 else 5)=c at *;simp only at h⊢;split
 .grind
 grind[Rf.gU,Rf.rE]
section
variable{E:Rf.PE}{G:Rf.ez}{ag:List (List UInt8)}{stack mm base lo res:List UInt8}{x:UInt8}{j k:Nat}{y:Rf.IR}
def Mi{r:mQ}(f:eu x=M r)(h:r.bM≠4)(a:Rf.PS):∃v:Nat×Rf.PS,Rf.aX E G ag stack x.toNat a=(⟨v.1,[],0,r.takes,r.gives,Yk⟩,v.2)/\(Rf.bn v.2=Yj->v.1<18446744073709551616/\(r.bM≠3->v.1<4294967296)):=by
 have gb:=xV x;unfold GQ at gb;rw[WH,f]at gb;simp only[Vo]at gb;obtain⟨-,gb⟩:=gb;by_cases c:r.bM=0
 .rw[Vi c]at gb;refine⟨(0,a),?_,λ_=>⟨Vc,λ_=>Vc⟩⟩;exact Az
 .rw[Va c]at gb;by_cases d:r.bM=1
  .rw[Vi d]at gb;simp only[Vo,Vx]at gb;obtain⟨⟨a1,a2⟩,a3⟩:=gb;refine⟨Rf.uM E 4294967295 a,?_,λb=>?_⟩
   .exact AA
   .have :=Rf.uq E 4294967295 a b;omega
  .rw[Va d]at gb;by_cases e:r.bM=2
   .rw[Vi e]at gb;simp only[Vo,Vx]at gb;obtain⟨⟨a1,a2⟩,a3⟩:=gb;refine⟨Rf.sM E 32 a,by rw[a1,a2,a3];rfl,λb=>?_⟩;have:=abL E 32 a b;omega
   .rw[Va e]at gb;by_cases g:r.bM=3
    .rw[Vi g]at gb;simp only[Vo,Vx]at gb;obtain⟨⟨a1,a2⟩,a3⟩:=gb;refine⟨Rf.sM E 64 a,by rw[a1,a2,a3];rfl,λb=>?_⟩;have:=abL E 64 a b;omega
    grind
def vo(h:x=32\/x=33\/x=34)(a:Rf.aX E G ag stack x.toNat (Yn j)=(y,Yn k))(c:y.ok=Yk):y.n<G.bg.length/\y.take=(if x=32 then []else [G.bg.getD y.n 0])/\y.put=(if x=33 then []else [G.bg.getD y.n 0]):=by
 have d:Rf.aX E G ag stack x.toNat (Yn j)=Rf.eK E G x.toNat (Yn j):=by rcases h with rfl |rfl |rfl <;>rfl
 rw[d]at a;unfold Rf.eK at a;simp only at a;split at a
 .grind
 .rename_i f;have e:=Rf.uq E ((G.bg.length:Int)-1) (Yn j) Ve;have b:=Vy Prod.fst a;simp only at b;subst b;refine⟨Ve,?_,?_⟩
  .rcases h with rfl |rfl |rfl <;>rfl
  .rcases h with rfl |rfl |rfl <;>rfl
def yv(h:x=35\/x=36)(a:Rf.aX E G ag stack x.toNat (Yn j)=(y,Yn k))(c:y.ok=Yk):y.n<G.bO.length/\y.take=(if x=35 then []else [(G.bO.getD y.n (0,0,0)).1])/\y.put=(if x=36 then []else [(G.bO.getD y.n (0,0,0)).1]):=by
 have d:Rf.aX E G ag stack x.toNat (Yn j)=Rf.dn E G x.toNat (Yn j):=by rcases h with rfl |rfl <;>rfl
 rw[d]at a;unfold Rf.dn at a;simp only at a;split at a
 .grind
 .rename_i f;have e:=Rf.uq E ((G.bO.length:Int)-1) (Yn j) Ve;have b:=Vy Prod.fst a;simp only at b;subst b;refine⟨Ve,?_,?_⟩
  .rcases h with rfl |rfl <;>rfl
  .rcases h with rfl |rfl <;>rfl
def aac(z:Rf.fO x=Yk)(p:x≠12/\x≠13/\x≠14/\x≠15)(o:x≠2/\x≠3/\x≠4/\x≠5/\x≠11)(s:x≠16)(c:Rf.aX E G ag stack x.toNat (Yn j)=(y,Yn k))(e:y.ok=Yk)(i:stack=mm++y.take)
  {fs:List Ty}{T:dA}{ao:List dQ}{q d:Nat}(g:Goes T ⟨G.bg,res,base++stack,d⟩ (q+1) (base++(mm++y.put))):EY fs (G.bO.map λg=>(g.1,g.2.1==1)) T ao q ⟨G.bg,res,base++stack,d⟩ ⟨x,y.n,0,0,0⟩:=by
 obtain⟨r,u⟩:=(ou x).1 z;by_cases w:r.bM=4
 .have b:=xV x;unfold GQ at b;rw[WH,u]at b;simp only[Vo]at b;obtain⟨-,b⟩:=b;rw[Va Y,Va Y,Va Y,Va Y]at b;simp only[Vo,XP,Wg,WK,XW]at b;have a:∀q:UInt8,x.toNat=q.toNat->x=q:=λq h=>Vp.1 h
  have v:∀n,(G.bO.map λg=>(g.1,g.2.1==1)).getD n (0,Yj)=((G.bO.getD n (0,0,0)).1,(G.bO.getD n (0,0,0)).2.1==1):=λn=>by
   rw[Vl,Vl,VN];cases G.bO[n]? <;>rfl
  rcases b.2 with h|h|h|h|h|h|h|h|h|h|h|h|h|h|h|h|h|h
  .obtain rfl :=a 0 h;exact .stop U
  .exact absurd (a 2 h) o.1
  .exact absurd (a 3 h) o.2.1
  .exact absurd (a 4 h) o.2.2.1
  .exact absurd (a 5 h) o.2.2.2.1
  .exact absurd (a 11 h) o.2.2.2.2
  .exact absurd (a 12 h) p.1
  .exact absurd (a 13 h) p.2.1
  .exact absurd (a 14 h) p.2.2.1
  .exact absurd (a 15 h) p.2.2.2
  .exact absurd (a 16 h) s
  .obtain rfl :=a 26 h;have f:Rf.aX E G ag stack (UInt8.toNat 26) (Yn j)=if stack=[]then (⟨0,[],0,[],[],Yj⟩,Yn j)else (⟨0,[],0,[stack.getD (stack.length-1) 0],[],Yk⟩,Yn j):=rfl
   rw[f]at c;split at c
   .grind
   .cases c;simp only at g i⊢;exact .drop (base++mm) _ U (by show base++stack=_;rw[VD,<-i]) Ve
  .obtain rfl :=a 27 h;have f:Rf.aX E G ag stack (UInt8.toNat 27) (Yn j)=if stack.length<3 then (⟨0,[],0,[],[],Yj⟩,Yn j)else (⟨0,[],0,[stack.getD (stack.length-2) 0,stack.getD (stack.length-2) 0,127],[stack.getD (stack.length-2) 0],Yk⟩,Yn j):=rfl
   rw[f]at c;split at c
   .grind
   .cases c;simp only at g i⊢;generalize stack.getD (stack.length-2) 0=t at *;exact .choose (base++mm) t U Ve Ve
  .obtain rfl :=a 32 h;obtain⟨l,f,m⟩:=vo (Yo U) c e;rw[f]at i;rw[m]at g;refine .CP U l ?_;grind
  .obtain rfl :=a 33 h;obtain⟨l,f,m⟩:=vo (Yp (Yo U)) c e;rw[f]at i;rw[m]at g;refine .EZ (base++mm) U l Ve ?_;grind
  .obtain rfl :=a 34 h;obtain⟨l,f,m⟩:=vo (Yp (Yp U)) c e;rw[f]at i;rw[m]at g;refine .Px (base++mm) U l Ve ?_;grind
  .obtain rfl :=a 35 h;obtain⟨l,f,m⟩:=yv (Yo U) c e;rw[f]at i;rw[m]at g;refine .Py U Ve ?_;grind
  .obtain rfl :=a 36 h;obtain⟨l,f,m⟩:=yv (Yp U) c e;rw[f]at i;rw[m]at g;refine .Pz (base++mm) U Ve Ve ?_;grind
 .obtain⟨v,a,b⟩:=Mi (E:=E) (G:=G) (ag:=ag) (stack:=stack) u w (Yn j);rw[c]at a;have l:y=⟨v.1,[],0,r.takes,r.gives,Yk⟩:=Vy Prod.fst a;have f:(Except.ok k:Rf.PS)=v.2:=Vy Prod.snd a;obtain⟨h,m⟩:=b (by rw[<-f];rfl);rw[l]at g i⊢;exact .plain r (base++mm) u w Ve Ve h m
end
def Ft(lo st:List UInt8)(m:Mc):Prop:=(∃bg aW,m.stack=bg++aW/\iP bg lo/\iP aW st)/\m.aD=[(0,lo.length,0)]/\m.pos=1
section
variable{lo st:List UInt8}{m m':Mc}{t:UInt8}
def Ft.nl(h:Ft lo st m):nL m=lo.length:=by unfold nL cE;rw[h.2.1];rfl
theorem Ft.len(h:Ft lo st m):m.stack.length=lo.length+st.length:=by
 obtain⟨⟨a,b,c,d,e⟩,-⟩:=h;grind[iP.len]
theorem Ft.aW(h:Ft lo st m):fG m=st.length:=by unfold fG;rw[h.nl,h.len];omega
def Ft.same(h:Ft lo st m)(e1:m'.stack=m.stack)(e2:m'.aD=m.aD)(e3:m'.pos=m.pos):Ft lo st m':=by
 obtain⟨⟨a,b,c,d,e⟩,f,g⟩:=h;exact⟨⟨a,b,e1.trans c,d,e⟩,e2.trans f,e3.trans g⟩
def Ft.fr(h:Ft lo st m)(T:dA):Fr T [] lo [] st m:=by
 obtain⟨⟨a,b,c,d,e⟩,f,-⟩:=h;exact⟨(0,lo.length,0),[],[],a,b,f,c,U,by grind[iP.len],d,e,U,U⟩
theorem Ft.of{T:dA}(h:Fr T [] lo [] st m)(g:m.aD=[(0,lo.length,0)])(j:m.pos=1):Ft lo st m:=by
 obtain⟨c,n,k,b,d,a⟩:=h;have e:=a.aD;rw[g]at e;have i:=Vy List.length e;simp at i;subst i;cases e;have l:=a.base;have f:=WS l;subst f;exact⟨⟨b,d,a.stack,a.Fl,a.PY⟩,g,j⟩
theorem Ft.fe(h:Ft lo (st++[t]) m):0<m.stack.length/\0<fG m/\dh t (aU m)/\Ft lo st (aI m):=by
 obtain⟨a,b,c⟩:=(h.fr (λ_=>H)).fe;refine⟨a,by rw[h.aW];simp,b,Ft.of c h.2.1 h.2.2⟩
def Ft.cut{mid vt:List UInt8}(h:Ft lo (D++mid++vt) m):Ft lo (D++vt) (jC m D.length vt.length)/\(jC m D.length vt.length).aD=m.aD:=by
 have g:=h.nl;obtain⟨⟨d,i,j,k,l⟩,n,o⟩:=h;obtain⟨r,c,rfl,e,f⟩:=l.split;obtain⟨a,b,rfl,p,s⟩:=e.split;refine⟨⟨⟨d,a++c,?_,k,p.app f⟩,n,o⟩,U⟩;show m.stack.take (nL m+D.length)++m.stack.drop (m.stack.length-vt.length)=_
 have q:=f.len;have e1:nL m+D.length=(d++a).length:=by grind[iP.len]
 have e2:m.stack=(d++a)++(b++c):=by rw[j];simp
 grind[List.take_left,List.length_append,List.drop_left]
theorem Ft.Qa{bt vt:List UInt8}(h:Ft lo (bt++vt) m):jC m bt.length vt.length=m:=by
 have b:=h.nl;have a:=h.len;rw[Vn]at a;unfold jC lV;rw[show m.stack.length-vt.length=nL m+bt.length by omega,Xn]
end
theorem JG{op:UInt8}{m:Mc}(b:((op=32\/op=33\/op=34)->a<nL m)/\((op=26\/op=33\/op=34\/op=36)->1<=fG m)/\(op=27->3<=fG m))(c:∀r,eu op=M r->r.bM=4\/((r.bM≠3->a<4294967296)/\r.takes.length<=fG m/\iP (m.stack.drop (m.stack.length-r.takes.length)) r.takes)):qc op a m=true:=by
 unfold qc;rw[Vo,Vx];refine⟨b,?_⟩;cases d:eu op with
 |none=>rfl
 |some r=>
  simp_all[yt]
def aad{s:List Ty}{q:List (UInt8×Bool)}{T:dA}{k:List dQ}{n:Nat}{res st:List UInt8}{x:UInt8}{m:Mc}(h:Ft D st m)(hi:EY s q T k N ⟨D,res,st,o⟩ ⟨x,n,0,0,0⟩):qc x n m=true:=by
 have u:=h.nl;have v:=h.aW;have d:∀{c:UInt8},x=c->(eu c).map (·.bM)=M 4->((c=32\/c=33\/c=34)->n<nL m)/\((c=26\/c=33\/c=34\/c=36)->1<=fG m)/\(c=27->3<=fG m)->qc x n m=true:=λe e4 w=>by grind[JG]
 cases hi with
 |stop h=>exact d h Vg ⟨λe=>absurd e Vb,λe=>absurd e Vb,λe=>absurd e Vb⟩
 |into h=>rcases h with h|h<;>exact d h Vg ⟨λe=>absurd e Vb,λe=>absurd e Vb,λe=>absurd e Vb⟩
 |Jt _ h=>exact d h Vg ⟨λe=>absurd e Vb,λe=>absurd e Vb,λe=>absurd e Vb⟩
 |nK h=>rcases h with h|h<;>exact d h Vg ⟨λe=>absurd e Vb,λe=>absurd e Vb,λe=>absurd e Vb⟩
 |AM h=>exact d h Vg ⟨λe=>absurd e Vb,λe=>absurd e Vb,λe=>absurd e Vb⟩
 |cond _ h=>exact d h Vg ⟨λe=>absurd e Vb,λe=>absurd e Vb,λe=>absurd e Vb⟩
 |table _ h=>exact d h Vg ⟨λe=>absurd e Vb,λe=>absurd e Vb,λe=>absurd e Vb⟩
 |call _ h=>exact d h Vg ⟨λe=>absurd e Vb,λe=>absurd e Vb,λe=>absurd e Vb⟩
 |drop f t h e g=>
  have i:st=f++[t]:=e;exact d h Vg ⟨λe=>absurd e Vb,λ_=>Ve,λe=>absurd e Vb⟩
 |choose f t h e g=>
  have i:st=f++[t]++[t]++[127]:=e;exact d h Vg ⟨λe=>absurd e Vb,λe=>absurd e Vb,λ_=>Ve⟩
 |CP h j g=>exact d h Vg ⟨λ_=>Ve,λe=>absurd e Vb,λe=>absurd e Vb⟩
 |EZ f h j e g=>
  have i:st=f++[D.getD n 0]:=e;exact d h Vg ⟨λ_=>Ve,λ_=>Ve,λe=>absurd e Vb⟩
 |Px f h j e g=>
  have i:st=f++[D.getD n 0]:=e;exact d h Vg ⟨λ_=>Ve,λ_=>Ve,λe=>absurd e Vb⟩
 |Py h j g=>exact d h Vg ⟨λe=>absurd e Vb,λe=>absurd e Vb,λe=>absurd e Vb⟩
 |Pz f h j e g=>
  have i:st=f++[(q.getD n (0,Yj)).1]:=e;exact d h Vg ⟨λe=>absurd e Vb,λ_=>Ve,λe=>absurd e Vb⟩
 |plain r f t A e g j y=>
  have i:st=f++r.takes:=e;have l:eu x=M r:=t;have no:∀{c:UInt8} {p:Prop},(eu c).map (·.bM)=M 4->x=c->p:=λe4 e=>Ve
  refine JG ⟨λe=>?_,λe=>?_,λe=>?_⟩ (λb a=>?_)
  .rcases e with e|e|e<;>exact no Vg e
  .rcases e with e|e|e|e<;>exact no Vg e
  .exact no Vg e
  .rw[l]at a;cases a;obtain⟨⟨p,z,w,B,c⟩,-⟩:=h;rw[i]at c;obtain⟨a,b,rfl,C,E⟩:=c.split;grind[List.drop_left,iP.len]
def HC{G:Rf.ez}{l:List (List UInt8)}{mm base:List UInt8}{x:UInt8}{y:Rf.IR}{f:dH}{m:Mc}(v:Rf.fO x=Yk)(w:x≠12/\x≠13/\x≠14/\x≠15)(z:x≠2/\x≠3/\x≠4/\x≠5/\x≠11)(j:x≠16)
  (B:Rf.aX A G l D x.toNat (Yn N)=(y,Yn o))(C:y.ok=Yk)(E:D=mm++y.take)(h:Ft G.bg (base++D) m)(hS:oH (G.bO.map λg=>(g.1,g.2.1==1)) m):
  (x.toNat<=1\/17<=x.toNat)/\qc x y.n m=Yk/\ ∃t i,bZ f m ⟨x,y.n,0,0,0⟩=M (t,i)/\i.aD=m.aD/\i.pos=m.pos/\i.aC=m.aC/\(t=0->x≠0/\Ft G.bg (base++(mm++y.put)) i/\oH (G.bO.map λg=>(g.1,g.2.1==1)) i/\(base++(mm++y.put)).length<=(base++D).length+1)/\(t≠0->i.stack.length<=m.stack.length):=by
 have P:x.toNat<=1\/17<=x.toNat:=by
  unfold Rf.fO at v;simp only[<-Vp,ne_eq]at w z j;simp at v w z j;omega
 have hi:=aac (res:=[]) (base:=base) (fs:=f.funcs.map (·.typ)) (T:=λ_=>M ⟨G.bg,[],base++(mm++y.put),0⟩) (ao:=f.ao) (q:=0) (d:=0) v w z j B C E ⟨0,U⟩;refine⟨P,aad h hi,?_⟩;have F:x=0\/(base++(mm++y.put)).length<=(base++D).length+1:=by
  have s:∀c,Goes (λ_=>M ⟨G.bg,[],base++(mm++y.put),0⟩) ⟨G.bg,[],base++D,0⟩ (0+1) c->base++(mm++y.put)=c:=by
   rintro c⟨d,I⟩;grind
  have hO:∀{c a b:List UInt8},base++D=c++a->base++(mm++y.put)=c++b->b.length<=1->(base++(mm++y.put)).length<=(base++D).length+1:=λJ a b=>Ve
  cases hi with
  |stop h=>grind
  |drop b t h e g=>grind
  |choose b t h e g=>grind
  |CP h k g=>grind
  |EZ b h k e g=>grind
  |Px b h k e g=>grind
  |Py h k g=>grind
  |Pz b h k e g=>grind
  |plain r b R S e g k n=>
   have J:∀r∈gM,r.gives.length<=1:=by decide +kernel
   grind[JF]
  |into h=>
   grind
  |Jt _ h=>grind
  |nK h=>
   grind
  |AM h=>grind
  |cond _ h=>grind
  |table _ h=>grind
  |call _ h=>grind
 have s:=h.fr (λ_=>M ⟨G.bg,[],base++(mm++y.put),0⟩);have u:m.aD.length<=16:=by rw[h.2.1];simp
 have K:eI (G.bO.map λg=>(g.1,g.2.1==1)) (λ_=>M ⟨G.bg,[],base++(mm++y.put),0⟩) [] 0 x m (bZ f m ⟨x,y.n,0,0,0⟩)/\x≠0\/x=0\/x=1:=by
  by_cases a:x=0
  .grind
  by_cases J:x=1
  .grind
  left
  refine⟨?_,a⟩;have W:=h.2.2;by_cases X:x.toNat=26\/x.toNat=27\/(32<=x.toNat/\x.toNat<=36)
  .exact Mg (p:=⟨G.bg,[],base++D,0⟩) (x:=⟨x,y.n,0,0,0⟩) s hS u W hi X
  have L:17<=x.toNat:=by
   have c:x.toNat≠0:=λe=>a (Vp.1 e)
   have e1:x.toNat≠1:=λe=>J (Vp.1 e)
   omega
  have no:∀c:UInt8,x=c->(c.toNat<=16\/c.toNat=26\/c.toNat=27\/(32<=c.toNat/\c.toNat<=36))->False:=λc e h=>Ve
  cases hi with
  |plain r b R S e g k n=>
   have c:=s;rw[show base++D=b++r.takes from e]at c;exact Mh (p:=⟨G.bg,[],base++D,0⟩) (x:=⟨x,y.n,0,0,0⟩) hS u R S c Ve k n L
  |stop h=>grind
  |into h=>grind
  |Jt _ h=>grind
  |nK h=>grind
  |AM h=>grind
  |cond _ h=>grind
  |table _ h=>grind
  |call _ h=>grind
  |drop _ _ h=>simp_all
  |choose _ _ h=>simp_all
  |CP h=>simp_all
  |EZ _ h=>simp_all
  |Px _ h=>simp_all
  |Py h=>simp_all
  |Pz _ h=>simp_all
 rcases K with⟨⟨t,i,L,S,k3,W,X⟩,a⟩|a|a
 .obtain⟨-,b,R⟩:=Bo (low:=[]) (cs:=[]) (r:=0) (p:=0) h.2.1 P L;refine⟨t,i,L,b,R,S,λc=>⟨a,?_⟩,λc=>(X c).1⟩;have g:=F.resolve_left a;rcases(W c).good with⟨⟨p',k,n⟩,J,-⟩|⟨I,-⟩
  .cases k;exact⟨Ft.of n (by rw[b];exact h.2.1) (R.trans h.2.2),J,g⟩
  .rw[b,h.2.1]at I;cases I
 .subst a;refine⟨1,m,U,U,U,U,λe=>(by cases e),λ_=>VP _⟩
 .subst a;have b:Rf.aX A G l D (UInt8.toNat 1) (Yn N)=(⟨0,[],0,[],[],Yk⟩,Yn N):=rfl;rw[b]at B;cases B;simp only[VF]at E⊢;subst E;exact⟨0,m,U,U,U,U,λ_=>⟨Vb,h,hS,Yh _⟩,λe=>absurd U e⟩
def jy(f:dH)(c:Nat)(s s':Mc):Prop:= ∃n,n<=c/\ ∀K,l9 f (n+K) s=l9 f K s'
def rC(f:dH)(c b:Nat)(s:Mc)(t fu:Nat):Prop:= ∃n s',n<=c/\s'.aC=fu/\s'.stack.length<=b/\ ∀K,l9 f (n+1+K) s=M (t,s')
section
variable{f:dH}{c c' b t fu:Nat}{s s' s'':Mc}
theorem jy.refl(f:dH)(s:Mc):jy f 0 s s:=⟨0,cQ,λK=>Vc⟩
theorem jy.trans(h:jy f c s s')(a:jy f c' s' s''):jy f (c+c') s s'':=by
 obtain⟨n,e,g⟩:=h;obtain⟨d,i,j⟩:=a;exact⟨n+d,Y,λK=>Ve⟩
theorem jy.le(h:jy f c s s')(d:c<=c'):jy f c' s s':=by
 obtain⟨n,e,a⟩:=h;exact⟨n,Y,a⟩
def jy.JH(h:jy f c s s')(d:rC f c' b s' t fu):rC f (c+c') b s t fu:=by
 obtain⟨n,l,e⟩:=h;obtain⟨a,g,m,i,j,k⟩:=d;exact⟨n+a,g,Y,i,j,λK=>by rw[show n+a+1+K=n+(a+1+K)by omega,e,k]⟩
theorem rC.le(h:rC f c b s t fu)(i:c<=c')(j:b<=a):rC f c' a s t fu:=by
 obtain⟨n,d,k,e,l,g⟩:=h;exact⟨n,d,Y,e,Y,g⟩
end
section
variable{f:dH}{low:List Int}{cs:List (Nat×Nat×Nat)}{r p n t:Nat}{m:Mc}{s1:Mc}
def gi(a:m.aD=[(0,n,0)]):(m.bB low cs r p).aD=cs++[(low.length,low.length+n,r)]/\(m.bB low cs r p).aD.length≠0:=by
 grind[Mc.bB]
def gz(c:m.aD=[(0,n,0)])(d:p<f.ao.length)(e:ep (f.ao.getD p bD).op=Yk)(g:m.aC≠0)(h:bZ f (({m with aC:=m.aC-1}:Mc).bB low cs r (p+1)) (f.ao.getD p bD)=M (t,s1)):
  (t=0->jy f 1 (m.bB low cs r p) s1)/\(t≠0->rC f 0 s1.stack.length (m.bB low cs r p) t s1.aC):=by
 have a:∀K,l9 f (1+K) (m.bB low cs r p)=vg (M (t,s1)) (l9 f K):=λK=>by
  rw[WL,l9,Va (gi c).2];show(if p<f.ao.length then if ep (f.ao.getD p bD).op then (if m.aC=0 then _ else _)else _ else _)=_
  rw[Vi d,Vi e,Va g,<-h];rfl
 constructor
 .intro b;exact⟨1,cQ,λK=>by rw[a,b];rfl⟩
 .intro b;exact⟨0,s1,cQ,U,cQ,λK=>by rw[Vv,a];show(if t=0 then _ else _)=_;grind⟩
def Tb(b:m.aD=[(0,n,0)])(c:p<f.ao.length)(d:ep (f.ao.getD p bD).op=Yk)(a:m.aC=0):rC f 0 (m.bB low cs r p).stack.length (m.bB low cs r p) 5 0:=by
 refine⟨0,{m.bB low cs r p with pos:=p+1},cQ,a,cQ,λK=>?_⟩;rw[Vv,WL,l9,Va (gi b).2];show(if p<f.ao.length then if ep (f.ao.getD p bD).op then (if m.aC=0 then _ else _)else _ else _)=_
 rw[Vi c,Vi d,Vi a];rfl
def yw(a:m.aD=[(0,n,0)])(b:p<f.ao.length)(c:ep (f.ao.getD p bD).op=Yj)(d:bZ f (m.bB low cs r (p+1)) (f.ao.getD p bD)=M (0,s1)):jy f 1 (m.bB low cs r p) s1:=by
 refine⟨1,cQ,λK=>?_⟩;rw[WL,l9,Va (gi a).2];show(if p<f.ao.length then if ep (f.ao.getD p bD).op then _ else vg (bZ f (m.bB low cs r (p+1)) (f.ao.getD p bD)) (l9 f K)else _)=_
 rw[Vi b,c,d];rfl
theorem qP{bt mid vt:List UInt8}(h:Ft D (bt++mid++vt) m){x:dQ}(d:x.aH=bt.length)(e:x.keep=vt.length):gy (m.bB low cs r p) x=M (0,(jC m bt.length vt.length).bB low cs r x.goal):=by
 have b:=h.nl;have c:=h.len;simp only[Vn]at c;have a:=tV (low:=low) (cs:=cs) (r:=r) (p:=p) h.2.1;unfold gy;rw[Vi]
 .unfold oR;rw[a,d,e];unfold jC;rw[b];simp only;congr 2;show Mc.mk ((low++m.stack).take _++(low++m.stack).drop _) _ _ _ _ _ _=Mc.mk (low++(m.stack.take _++m.stack.drop _)) _ _ _ _ _ _
  rw[cH,show low.length+D.length+bt.length=low.length+(D.length+bt.length)by omega,Wc,show low.length+m.stack.length-vt.length=low.length+(m.stack.length-vt.length)by omega,Wd,VD];rfl
 .unfold oE;rw[a];simp only[Vo,Vx];rw[cH,d,e];exact⟨Nat.pos_of_ne_zero (gi h.2.1).2,Y⟩
end
def rk(f:dH)(gl:List (UInt8×Bool))(lo:List UInt8)(L:List uL)(low:List Int)(cs:List (Nat×Nat×Nat))(r b p:Nat)(m:Mc)(st:List UInt8)(q t:Nat)(out:Int)(m':Mc):Prop:=
 m'.aC<=m.aC/\((t≠0/\rC f (2*(m.aC-m'.aC)) b (m.bB low cs r p) t m'.aC)\/
  (t=0/\oH gl m'/\((out= -1/\Ft lo st m'/\jy f (2*(m.aC-m'.aC)) (m.bB low cs r p) (m'.bB low cs r q))\/
   ∃k lb mid,L[k]?=M lb/\out=((L.length-1-k:Nat):Int)/\m'.aC<m.aC/\Ft lo (lb.bt++mid++lb.vt) m'/\jy f (2*(m.aC-m'.aC)) (m.bB low cs r p) ((jC m' lb.bt.length lb.vt.length).bB low cs r lb.goal))))
section
variable{f:dH}{B:List (List Nd)}{gl:List (UInt8×Bool)}{lo:List UInt8}{L:List uL}{low:List Int}{cs:List (Nat×Nat×Nat)}{r b p q q1 d g t:Nat}{m m1 m2:Mc}{st st1:List UInt8}{out:Int}{x:Nd}{l:List Nd}
theorem rk.pre(h:rk f gl lo L low cs r b q m1 st q1 t out m2)(i:jy f a (m.bB low cs r p) (m1.bB low cs r q))(y:a<=2*(m.aC-m1.aC))(z:m1.aC<=m.aC):rk f gl lo L low cs r b p m st q1 t out m2:=by
 obtain⟨A,c⟩:=h;refine⟨Y,?_⟩;rcases c with⟨c,e⟩|⟨c,e,⟨j,n,s⟩|⟨k,u,o,j,n,s,v,w⟩⟩
 .exact Yo ⟨c,(i.JH e).le Y cQ⟩
 .exact Yp ⟨c,e,Yo ⟨j,n,(i.trans s).le Y⟩⟩
 .exact Yp ⟨c,e,Yp ⟨k,u,o,j,n,Y,v,(i.trans w).le Y⟩⟩
def iA(i:m.aC≠0)(j:fU f B (go f B g) d x {m with aC:=m.aC-1}=M (t,out,m2))(y:rk f gl lo L low cs r b p m st1 q1 t out m2)
  (n:t=0->Ft lo st1 m2->oH gl m2-> ∃g t out a,go f B g d H l 0 m2=M (t,out,a)/\rk f gl lo L low cs r b q1 m2 st q t out a):∃g t out a,go f B g d H (x::l) 0 m=M (t,out,a)/\rk f gl lo L low cs r b p m st q t out a:=by
 obtain⟨o,⟨c,e⟩|⟨c,e,⟨w,h,s⟩|⟨k,z,u,w,h,s,A,C⟩⟩⟩:=y
 .exact⟨g+1,t,out,m2,by rw[go,Va i,j];simp only;rw[Vi (Yo c)],o,Yo ⟨c,e⟩⟩
 .obtain⟨g2,t2,v,a,D,E⟩:=n c h e;refine⟨max g g2+1,t2,v,a,?_,E.pre s cQ o⟩;rw[go,Va i,S1 (Nat.le_max_left g g2) j];simp only;rw[Va Y];exact xm (Nat.le_max_right g g2) D
 .exact⟨g+1,t,out,m2,by rw[go,Va i,j];simp only;rw[Vi (Yp (by rw[h];omega))],o,Yp ⟨c,e,Yp ⟨k,z,u,w,h,s,A,C⟩⟩⟩
def Qb(a:Ft lo st1 m)(c:m.aC=0)(h:p<f.ao.length)(i:ep (f.ao.getD p bD).op=Yk)(j:(m.bB low cs r p).stack.length<=b):∃g t out e,go f B g d H (x::l) 0 m=M (t,out,e)/\rk f gl lo L low cs r b p m st q t out e:=
 ⟨1,5,-1,m,by simp_all[go],cQ,Yo ⟨Vb,by rw[c];exact(Tb a.2.1 h i c).le Y j⟩⟩
def qQ{bt rs0:List UInt8}(w:x.op=3->a=p/\D=[])(T:x.op≠3->a=q/\D=rs0/\x.value=rs0.length)
  (y:∀e,Ft lo (bt++rs0) e-> ∃c,c<=1/\jy f c (e.bB low cs r q1) (e.bB low cs r q))
  (ih:∀m,m.aC<=N->Ft lo bt m->oH gl m-> ∃g t out e,go f B g d H l 0 m=M (t,out,e)/\rk f gl lo (L++[⟨a,bt,D⟩]) low cs r b p m (bt++rs0) q1 t out e):
  ∀F,F<=N-> ∀m,m.aC<=F->Ft lo bt m->oH gl m-> ∃g t out e,go f B g d (M x) l bt.length m=M (t,out,e)/\e.aC<=m.aC/\((t≠0/\rC f (2*(m.aC-e.aC)) b (m.bB low cs r p) t e.aC)\/
   (t=0/\oH gl e/\((out= -1/\Ft lo (bt++rs0) e/\jy f (2*(m.aC-e.aC)+1) (m.bB low cs r p) (e.bB low cs r q))\/
   ∃k h i,L[k]?=M h/\out=((L.length-1-k:Nat):Int)/\e.aC<m.aC/\Ft lo (h.bt++i++h.vt) e/\jy f (2*(m.aC-e.aC)) (m.bB low cs r p) ((jC e h.bt.length h.vt.length).bB low cs r h.goal)))):=by
 intro F;induction F using Nat.strongRecOn with
 |ind F z=>
 intro W m hF A hS;obtain⟨e,X,j,m1,e1,e2,e3⟩:=ih m Y A hS;rcases e3 with⟨e3,e4⟩|⟨e3,e4,⟨e5,n,C⟩|⟨k,h,i,e5,n,C,u,o⟩⟩
 .exact⟨e+1,X,-1,m1,by rw[go,e1];simp only;rw[Vi e3],e2,Yo ⟨e3,e4⟩⟩
 .obtain⟨c,v,s⟩:=y m1 n;subst e3 e5;exact⟨e+1,0,-1,m1,by rw[go,e1];rfl,e2,Yp ⟨U,e4,Yo ⟨U,n,(C.trans s).le Y⟩⟩⟩
 .subst e3;rcases VE k L.length with E|E
  .rw[VC E]at e5;have R:0<j:=by rw[n];simp;omega
   refine⟨e+1,0,j-1,m1,by rw[go,e1];simp only;rw[Va Vc,Vi R],e2,Yp ⟨U,e4,Yp ⟨k,h,i,e5,?_,C,u,o⟩⟩⟩;rw[n];simp;omega
  .rw[VQ E]at e5;have v:k-L.length=0:=by
    rcases VM (k-L.length)with v|v
    .exact v
    .rw[Xm Vd]at e5;cases e5
   rw[v]at e5;cases e5;have R:j=0:=by rw[n];simp;omega
   obtain⟨G,k2⟩:=u.cut;have s:oH gl (jC m1 bt.length D.length):=e4.same U U U;by_cases c:x.op=3
   .obtain⟨rfl,rfl⟩:=w c;rw[VF]at G;obtain⟨g2,t2,I,m2,f1,f2,f3⟩:=z (F-1) Y Y (jC m1 bt.length 0) (by show m1.aC<=_;omega) G s;have z:(jC m1 bt.length 0).aC=m1.aC:=rfl;rw[z]at f2 f3;refine⟨max e g2+1,t2,I,m2,?_,Y,?_⟩
    .rw[go,xm (Nat.le_max_left e g2) e1];simp only;rw[Va Vc,Va Y,Va Y,Va (by rw[Vi c,u.aW];simp),Vi c];exact xm (Nat.le_max_right e g2) f1
    .rcases f3 with⟨f3,f4⟩|⟨f3,f4,⟨f5,J,S⟩|⟨k',K,P,f5,J,S,f8,f9⟩⟩
     .exact Yo ⟨f3,(o.JH f4).le Y cQ⟩
     .exact Yp ⟨f3,f4,Yo ⟨f5,J,(o.trans S).le Y⟩⟩
     .exact Yp ⟨f3,f4,Yp ⟨k',K,P,f5,J,Y,f8,(o.trans f9).le Y⟩⟩
   .obtain⟨rfl,rfl,z⟩:=T c;refine⟨e+1,0,-1,jC m1 bt.length D.length,?_,e2,Yp ⟨U,s,Yo ⟨U,G,o.le (by show 2*(m.aC-m1.aC)<=2*(m.aC-m1.aC)+1;omega)⟩⟩⟩;rw[go,e1];simp only;rw[Va Vc,Va Y,Va Y,Va (by rw[Va c,z,u.aW];simp),Va c,z]
end
end
end Go.Proofs.YtdeplgkhmebalaaGreatDoor
