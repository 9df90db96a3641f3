/- Go on. -/
import Derived.Test.YtdeplgkhmebalaaGreatDoorP07
set_option linter.all false
set_option maxHeartbeats 4000000
set_option maxRecDepth 100000
variable{X:Go.World}{k b a j N d:Nat}{u z:Go.Value}{y:Int}{D l:List UInt8}{I:List Int}{g:UInt8}{F:List Go.Value}{T:Go.TypeId}
namespace Go.Proofs.YtdeplgkhmebalaaGreatDoor
open Bool renaming false->Yj,true->Yk
open Except renaming error->Ym,ok->Yn
open Go renaming Calls->Yy,Value->Yx,World->Yw
open Go.Ending renaming returned->Yq
open Go.IntKind renaming i64->O,u64->Yr,u8->Ys
open Go.Obj renaming cells->Yl
open Go.Value renaming bool->Yt,int->V,pointer->Yv,slice->Q,tuple->Yu
open Option renaming none->H,some->M
open Or renaming inl->Yo,inr->Yp
open Proofs.Tryz
variable{C J:Bd}{K:Mc}
section
open Go.RowKit
open Rf (ptr bh)
section
variable{E:ew}{lo:Nat->Prop}{w w':World}{fb n:Nat}{s:Rs}{lab bv ev:Value}{va:Int}
def Tj(h:ee E lo w fb s)(c:Bool)(k:Nat)(i:k<15)(j:a<top c)(l:b<top c){v:Int}{t:Nat}(m:bU c k a b=M (v,t))(d:s.t=0){o:List Int}(g:s.aW=o++[(a:Int),(b:Int)])(e:s.aW.length<=1000000000):
  Yy prog 197 #[ptr E.rb,ptr fb,eW ((if c then 124 else 106)+k) n lab bv ev va] w λr w'=> ∃f,(t=0->f=v)/\ui E lo w fb {s with aW:=o++[f],t:=t} r w':=by
 have p:=h.mW;have I:o.length+2<=1000000000:=by rw[g]at e;simpa using e
 have q:=Z (eC (o:=o++[(a:Int)]) (v:=b) (h.box (bX ((if c then 124 else 106)+k) n lab bv ev va)) (by rw[g];simp) e);have u:=Z (λlo w (h:ee E lo w fb {s with aW:=o})=>Ti h c k i j l m d);clear h g e j l m d;change Hid _ at p;cases c;all_goals
  simp only[Vq,VL,VK]at q u⊢;rcases(by omega :k=0\/k=1\/k=2\/k=3\/k=4\/k=5\/k=6\/k=7\/k=8\/k=9\/k=10\/k=11\/k=12\/k=13\/k=14)with rfl |rfl |rfl |rfl |rfl |rfl |rfl |rfl |rfl |rfl |rfl |rfl |rfl |rfl |rfl
  all_goals
   clear i;go_enter func197,ntmps197;go_wp2_with fail;refine q.bw ?_;rintro J⟨x,y⟩;go_wp2_with fail;refine(eC (o:=o) (v:=a) x U Vd).bw ?_;rintro K⟨z,A⟩;go_wp2_with fail;refine(u _ _ z).mono ?_;rintro r L⟨⟨f,rfl,B⟩,C,D⟩;go_wp2_with fail;refine(gQ C _ Vd).bw ?_;rintro N⟨F,G⟩;go_wp2;go_end0;exact⟨f,B,U,dP p F (((y.trans A).trans D).trans G)⟩
end
section
variable{E:ew}{lo:Nat->Prop}{w w':World}{fb n:Nat}{s:Rs}{lab bv ev:Value}{va:Int}
def HY(b:Bool)(k:Nat)(c:k<3)(d:a<top b)(w:Yw):
  fX 223 #[V Ys ((if b then 121 else 103)+k:Nat),V Yr a] w (V Yr (dG b k a)):=by
 rcases(by omega :k=0\/k=1\/k=2)with rfl |rfl |rfl<;>grind[Tf,Qo,Te]
def Qq(h:ee E lo w fb s)(b:Bool)(k:Nat)(g:k<3)(i:a<top b)(d:s.aW=I++[(a:Int)])(c:s.aW.length<=1000000000):
  Yy prog 197 #[ptr E.rb,ptr fb,eW ((if b then 121 else 103)+k) n lab bv ev va] w (ui E lo w fb {s with aW:=I++[dG b k a]}):=by
 have j:=h.mW;have q:I.length+1<=1000000000:=by rw[d]at c;simpa using c
 have e:=eC (h.box (bX ((if b then 121 else 103)+k) n lab bv ev va)) d c;have f:=λw=>HY b k g i w
 generalize dG b k a=u at *;cases b;all_goals
  simp only[Vq,VL,VK]at e f⊢;rcases(by omega :k=0\/k=1\/k=2)with rfl |rfl |rfl
  all_goals
   go_enter func197,ntmps197;go_wp2_with fail;refine e.bw ?_;rintro r⟨l,m⟩;go_wp2_with fail;refine(f _).cJ ?_;go_wp2_with fail;refine(gQ l _ Vd).bw ?_;rintro t⟨o,p⟩;go_wp2;go_end0;exact⟨U,dP j o (m.trans p)⟩
def vu{P:Prop}(h:P:=by
 go_enter func197,ntmps197;go_wp2_with fail;refine HP.bw ?_;rintro e⟨a,b⟩;go_wp2_with fail;refine(gQ a _ Vd).bw ?_;rintro f⟨c,d⟩;go_wp2;go_end0;exact⟨U,dP hr c (b.trans d)⟩):P:=h
def Tk(h:ee E lo w fb s)(d:a<18446744073709551616)(c:s.aW=I++[(a:Int)])(b:s.aW.length<=1000000000):
  Yy prog 197 #[ptr E.rb,ptr fb,eW 167 n lab bv ev va] w (ui E lo w fb {s with aW:=I++[eE Yj a]}):=by
 have hr:=h.mW;have f:I.length+1<=1000000000:=by rw[c]at b;simpa using b
 have HP:=eC (h.box (bX 167 n lab bv ev va)) c b;have e:eE Yj (a:Int)=((a%4294967296:Nat):Int):=by
  rw[xc Yj d];rfl
 rw[e];exact vu
def Tl(h:ee E lo w fb s)(d:a<4294967296)(g:s.aW=I++[(a:Int)])(e:s.aW.length<=1000000000):
  Yy prog 197 #[ptr E.rb,ptr fb,eW 172 n lab bv ev va] w (ui E lo w fb {s with aW:=I++[IntKind.u64.wrap (bF Yj a)]}):=by
 have hr:=h.mW;have k:I.length+1<=1000000000:=by rw[g]at e;simpa using e
 have HP:=eC (h.box (bX 172 n lab bv ev va)) g e;have i:bF Yj (a:Int)=if a<2147483648 then (a:Int)else (a:Int)-4294967296:=by
  rw[kJ Yj d];unfold xa;rw[Fy];by_cases h:a<2147483648
  .rw[Vi h,Vi Y]
  .rw[Va h,Va Y];omega
 rw[i];by_cases c:a<2147483648
 .rw[Vi c,show IntKind.u64.wrap (a:Int)=(a:Int)by have:=d;rw[IntKind.wrap_u64];omega];have f:decide ((2147483648:Int)<=(a:Int))=false:=XL Y;clear c d;exact vu
 .rw[Va c];have f:decide ((2147483648:Int)<=(a:Int))=true:=XR Y;obtain⟨b,j⟩:=uh (IntKind.u64.wrap ((a:Int)-4294967296));rw[j];clear c d;exact vu
def Mq(h:ee E lo w fb s){v:Int}{o:List Int}(k:s.aW=o++[y,v])(a:s.aW.length<=1000000000)(q:s.st.length<=8):
  Yy prog 197 #[ptr E.rb,ptr fb,eW 225 n lab bv ev va] w (ui E lo w fb {s with aW:=o,st:=wQ s.st (wrap64 y) (wrap64 v),t:=if kP s.st (wrap64 y)|| !(s.st.length==8)then s.t else 7}):=by
 have r:=h.mW;have R:o.length+2<=1000000000:=by rw[k]at a;simpa using a
 have u:=Z (eC (o:=o++[y]) (v:=v) (h.box (bX 225 n lab bv ev va)) (by rw[k];simp) a);have l:=Z r;cases b:(kP s.st (wrap64 y)|| !(s.st.length==8));all_goals
  have c:=Z b;go_enter func197,ntmps197;go_wp2_with fail;refine u.bw ?_;rintro S⟨x,z⟩;go_wp2_with fail;refine(eC (o:=o) (v:=y) x U Vd).bw ?_;rintro T⟨d,A⟩;obtain⟨B,C⟩:=ae d.run.1;obtain⟨W,gv,f,-⟩:=d.inst;obtain⟨D,F⟩:=ae f;have G:=Z d;have I:=Z (z.trans A);go_wp2_with fail;refine(U6 G (wrap64 y) (wrap64 v) q).bw ?_;rintro J⟨g,K⟩;have e:=c.out;dsimp only at g⊢;rw[e];obtain⟨i,-,j,-⟩:=g.run;obtain⟨L,N⟩:=ae i;have m:=Z (j J 7 iR);have P:=Z g;have p:=Z (I.trans K);go_wp2;go_end0
 .exact⟨U,dP l m.1 (p.trans m.2)⟩
 .exact⟨U,dP l P p⟩
end
section
variable{E:ew}{lo:Nat->Prop}{w w':World}{fb n:Nat}{s:Rs}{lab bv ev:Value}{va:Int}
def pW(h:X.ownsRow 0 38 1 u I.length (ay I))(c:k<I.length):∃a b,u= Q (M ⟨a,0,H⟩) I.length b/\I.length<=b/\X.cell? ⟨a,k,H⟩=M (V Yr (I.getD k 0))/\X.frozen? ⟨a,k,H⟩=false:=by
 obtain⟨d,b,rfl,e⟩:=(aw.own h).aJ;obtain⟨a,rfl,f,g⟩:=nO h (k:=k) (x:= V Yr (I.getD k 0)) (by grind[ay]);grind
def Bc{P:Prop}(h:P:=by
 rintro e c⟨rfl,a,b⟩;refine⟨_,U,hK _ _ ?_⟩;refine dj ?_;go_wp2;go_end0;exact⟨U,dP hr a (Kp.trans fL b)⟩):P:=h
def SM(h:ee E lo w fb s)(l:n<s.bg.length)(m:s.bg.length<=1000000)(o:s.aW.length<=1000000000):Yy prog 197 #[ptr E.rb,ptr fb,eW 32 n lab bv ev va] w (ui E lo w fb {s with aW:=s.aW++[s.bg.getD n 0]}):=by
 have hr:=h.mW;have c:=h.box (bX 32 n lab bv ev va);obtain⟨r,j,d,-,-,-,-,e,-⟩:=h.frame;obtain⟨a,b,rfl,p,f,-⟩:=pW e l;have g:=λW (k:Kp no (w.alloc (bX 32 n lab bv ev va)) W)=>gQ (c.quiet k) (s.bg.getD n 0) o
 generalize s.bg.getD n 0=u at *;generalize s.bg.length=N at *;have i:∀W,Kp no (w.alloc (bX 32 n lab bv ev va)) W->(∀q,W.cell? ⟨fb,q,H⟩=#[Q (M ⟨a,0,H⟩) N b,j][q]?)/\(∀q,W.cell? ⟨w.heap.size,q,H⟩=#[V Ys 32,V Yr n,lab,bv,ev,V O va][q]?)/\W.cell? ⟨a,n,H⟩=M (V Yr u):=λW k=>⟨(ae (k.az (ah d) id)).1,(ae (k.az (ai w (bX 32 n lab bv ev va)) id)).1,k.cell (Kp.cell ((Kp.refl no w).alloc _) f id) id⟩
 go_enter func197,ntmps197;go_wp2_with fail;refine rj 9 10 (λW=>(∀q,W.cell? ⟨fb,q,H⟩=#[Q (M ⟨a,0,H⟩) N b,j][q]?)/\(∀q,W.cell? ⟨w.heap.size,q,H⟩=#[V Ys 32,V Yr n,lab,bv,ev,V O va][q]?)/\W.cell? ⟨a,n,H⟩=M (V Yr u)) ?hS λhS=>?_
 case hS=>exact i _ fL
 refine tj 0 ?_;iterate 8 refine tn ?_
 refine ej 9 λK hK=>?_
 refine sc (g _ fL) ?_;exact Bc
def SN(h:ee E lo w fb s)(x:n<s.bg.length)(z:s.bg.length<=1000000)(A:s.aW=I++[y])(B:s.aW.length<=1000000000):Yy prog 197 #[ptr E.rb,ptr fb,eW 33 n lab bv ev va] w (ui E lo w fb {s with aW:=I,bg:=s.bg.set n y}):=by
 have C:=h.mW;have o:=h.box (bX 33 n lab bv ev va);obtain⟨T,X,d,⟨m,b,rfl,D⟩,-⟩:=h.frame;have p:fb≠w.heap.size:=λe=>cj (au d)
 have F:=λW (k:Kp no (w.alloc (bX 33 n lab bv ev va)) W)=>xl (o.quiet k) A B
 have f:∀W,Kp (one fb) (w.alloc (bX 33 n lab bv ev va)) W->W.cell? ⟨fb,0,H⟩=M (Q m s.bg.length b)->W.cell? ⟨fb,0,H⟩=M (Q m s.bg.length b)/\(∀q,W.cell? ⟨w.heap.size,q,H⟩=#[V Ys 33,V Yr n,lab,bv,ev,V O va][q]?):=λW k h=>⟨h,(ae (k.az (ai w (bX 33 n lab bv ev va)) (λe=>p e.symm))).1⟩
 have g:(w.alloc (bX 33 n lab bv ev va)).cell? ⟨fb,0,H⟩=M (Q m s.bg.length b):=(ae (ah d)).1 0;go_enter func197,ntmps197;go_wp2_with fail;refine rj 9 10 (λW=>W.cell? ⟨fb,0,H⟩=M (Q m s.bg.length b)/\(∀q,W.cell? ⟨w.heap.size,q,H⟩=#[V Ys 33,V Yr n,lab,bv,ev,V O va][q]?)) ?hS λhS=>?_
 case hS=>exact f _ fL g
 refine tj 0 ?_;iterate 6 refine tn ?_
 refine oj 7 λK q=>?_
 refine sc (F _ fL) ?_;rintro e G⟨rfl,⟨r,t⟩,u,i⟩;have c:=i.trans g;refine⟨_,U,q _ _ (f _ (Kp.trans fL u) c) (λhS=>?_)⟩;simp only[pS];obtain⟨J,L,j,-,-,-,-,k,-,-,-,l⟩:=r.frame;have e2:=(ae j).1 0;rw[c]at e2;have e3:=Vr e2;subst e3;obtain⟨a,N,e4,-,P,R⟩:=pW k x;cases e4;have v:=l G a n y iR U;have S:=Kp.trans fL t;clear r j k l e2 i c u t;refine tj 8 ?_;refine ej 9 λK q=>?_
 go_simp;refine q _ _ ?_;refine dj ?_;go_wp2;go_end0;exact⟨U,dP C v.1 (S.trans v.2)⟩
def SP(h:ee E lo w fb s)(I:n<s.bg.length)(J:s.bg.length<=1000000){o:List Int}(A:s.aW=o++[y])(L:s.aW.length<=1000000000):Yy prog 197 #[ptr E.rb,ptr fb,eW 34 n lab bv ev va] w (ui E lo w fb {s with bg:=s.bg.set n y}):=by
 have N:=h.mW;have e:=h.box (bX 34 n lab bv ev va);obtain⟨P,sv,c,-,⟨R,j,rfl,B⟩,-,-,f,l,-⟩:=h.frame;obtain⟨-,-,-,-,-,-,-,-,-,-,-,g⟩:=e.frame;obtain⟨C,S,m,-,-,-,-,-,-,-,-,g⟩:=e.frame;have e1:P=C:=by
  have:=ah (o:=bX 34 n lab bv ev va) c;rw[m]at this;cases this;rfl
 subst e1;obtain⟨a,p,rfl,T,i,D⟩:=pW f I;have r:s.aW.length=o.length+1:=by rw[A];simp
 obtain⟨d,rfl,t,-⟩:=nO l (k:=o.length) (x:= V Yr y) (by rw[A];simp[ay]);have v:∀W,Kp no w W->W.frozen? ⟨a,n,H⟩=false:=λW k=>(k.own f bW).frozenAt _
 have X:=λW (k:Kp no (w.alloc (bX 34 n lab bv ev va)) W)=>g W a n y k U
 obtain⟨b,F⟩:=bL s.aW.length;rw[<-F]at c L B r;have h0:o.length<b:=Y
 have h1:IntKind.i64.wrap ((b:Int)-1)=(o.length:Int):=by rw[IntKind.wrap_i64];omega
 have h2:IntKind.i64.wrap (o.length:Int)=(o.length:Int):=by rw[IntKind.wrap_i64];omega
 obtain⟨G,z⟩:∃u,u=s.bg.getD n 0:=⟨_,U⟩;rw[<-z]at i;have u:∀W,Kp no (w.alloc (bX 34 n lab bv ev va)) W->(∀q,W.cell? ⟨fb,q,H⟩=#[Q (M ⟨a,0,H⟩) s.bg.length p,Q (M ⟨d,0,H⟩) b j][q]?)/\(∀q,W.cell? ⟨w.heap.size,q,H⟩=#[V Ys 34,V Yr n,lab,bv,ev,V O va][q]?)/\W.cell? ⟨d,o.length,H⟩=M (V Yr y)/\W.cell? ⟨a,n,H⟩=M (V Yr G)/\W.frozen? ⟨a,n,H⟩=false:=λW k=>⟨(ae (k.az (ah c) id)).1,(ae (k.az (ai w (bX 34 n lab bv ev va)) id)).1,k.cell (Kp.cell ((Kp.refl no w).alloc _) t id) id,k.cell (Kp.cell ((Kp.refl no w).alloc _) i id) id,v W (((Kp.refl no w).alloc _).trans k)⟩
 clear h e c m f l A t i D v g z r F;go_enter func197,ntmps197;go_wp2_with fail;refine rj 19 20 (λW=>(∀q,W.cell? ⟨fb,q,H⟩=#[Q (M ⟨a,0,H⟩) s.bg.length p,Q (M ⟨d,0,H⟩) b j][q]?)/\(∀q,W.cell? ⟨w.heap.size,q,H⟩=#[V Ys 34,V Yr n,lab,bv,ev,V O va][q]?)/\W.cell? ⟨d,o.length,H⟩=M (V Yr y)/\W.cell? ⟨a,n,H⟩=M (V Yr G)/\W.frozen? ⟨a,n,H⟩=Yj) ?hS λhS=>?_
 case hS=>exact u _ fL
 refine tj 0 ?_;iterate 18 refine tn ?_
 refine ej 19 λK q=>?_
 obtain⟨-,-,-,W,h3⟩:=hS;go_simp;refine q _ _ ?_;refine dj ?_;have q:=X _ fL;go_wp2;go_end0;exact⟨U,dP N q.1 q.2⟩
end
section
variable{E:ew}{lo:Nat->Prop}{w w':World}{fb n:Nat}{s:Rs}{lab bv ev:Value}{va:Int}
def SQ(h:ee E lo w fb s)(m:n<s.gl.length)(o:s.gl.length<=1000000)(p:s.aW.length<=1000000000):Yy prog 197 #[ptr E.rb,ptr fb,eW 35 n lab bv ev va] w (ui E lo w fb {s with aW:=s.aW++[s.gl.getD n 0]}):=by
 have hr:=h.mW;have c:=h.box (bX 35 n lab bv ev va);obtain⟨l,gv,d,-,e,-⟩:=h.inst;obtain⟨a,b,rfl,r,f,-⟩:=pW e m;have g:=h.run.1;have i:=Z (λW (k:Kp no (w.alloc (bX 35 n lab bv ev va)) W)=>gQ (c.quiet k) (s.gl.getD n 0) p);generalize s.gl.getD n 0=u at *;generalize s.gl.length=N at *;have j:∀W,Kp no (w.alloc (bX 35 n lab bv ev va)) W->(∀q,W.cell? ⟨E.rb,q,H⟩=#[ptr E.xb,V O E.F,V O s.used,V O s.t,V O s.d][q]?)/\(∀q,W.cell? ⟨E.xb,q,H⟩=#[ptr E.mb,ptr E.sb,l,(Q (M ⟨a,0,H⟩) N b)][q]?)/\(∀q,W.cell? ⟨w.heap.size,q,H⟩=#[V Ys 35,V Yr n,lab,bv,ev,V O va][q]?)/\W.cell? ⟨a,n,H⟩=M (V Yr u):=λW k=>⟨(ae (k.az (ah g) id)).1,(ae (k.az (ah d) id)).1,(ae (k.az (ai w (bX 35 n lab bv ev va)) id)).1,k.cell (Kp.cell ((Kp.refl no w).alloc _) f id) id⟩
 go_enter func197,ntmps197;go_wp2_with fail;refine rj 12 13 (λW=>(∀q,W.cell? ⟨E.rb,q,H⟩=#[ptr E.xb,V O E.F,V O s.used,V O s.t,V O s.d][q]?)/\(∀q,W.cell? ⟨E.xb,q,H⟩=#[ptr E.mb,ptr E.sb,l,(Q (M ⟨a,0,H⟩) N b)][q]?)/\(∀q,W.cell? ⟨w.heap.size,q,H⟩=#[V Ys 35,V Yr n,lab,bv,ev,V O va][q]?)/\W.cell? ⟨a,n,H⟩=M (V Yr u)) ?hS λhS=>?_
 case hS=>exact j _ fL
 refine tj 0 ?_;iterate 11 refine tn ?_
 refine ej 12 λK hK=>?_
 refine sc (i _ fL) ?_;exact Bc
def SR(h:ee E lo w fb s)(z:n<s.gl.length)(A:s.gl.length<=1000000)(B:s.aW=I++[y])(C:s.aW.length<=1000000000):Yy prog 197 #[ptr E.rb,ptr fb,eW 36 n lab bv ev va] w (ui E lo w fb {s with aW:=I,gl:=s.gl.set n y}):=by
 have D:=h.mW;have f:=h.box (bX 36 n lab bv ev va);obtain⟨r,gv,b,-,g,-⟩:=h.inst;obtain⟨t,c,rfl,F⟩:=(aw.own g).aJ;have i:=h.run.1;obtain⟨G,u,-⟩:=h.ne;have j:w.heap.size≠fb:=λe=>by obtain⟨lv,sv,l,-⟩:=h.frame;have:=au l;omega
 have J:=Z (λW (k:Kp no (w.alloc (bX 36 n lab bv ev va)) W)=>xl (f.quiet k) B C);have m:=λW (k:Kp (one fb) (w.alloc (bX 36 n lab bv ev va)) W)=>k.az (ah b) u
 have d:∀W,Kp (one fb) (w.alloc (bX 36 n lab bv ev va)) W->(∀q,W.cell? ⟨E.rb,q,H⟩=#[ptr E.xb,V O E.F,V O s.used,V O s.t,V O s.d][q]?)/\(∀q,W.cell? ⟨E.xb,q,H⟩=#[ptr E.mb,ptr E.sb,r,(Q t s.gl.length c)][q]?)/\(∀q,W.cell? ⟨w.heap.size,q,H⟩=#[V Ys 36,V Yr n,lab,bv,ev,V O va][q]?):=λW k=>⟨(ae (k.az (ah i) G)).1,(ae (k.az (ah b) u)).1,(ae (k.az (ai w (bX 36 n lab bv ev va)) j)).1⟩
 go_enter func197,ntmps197;go_wp2_with fail;refine rj 12 13 (λW=>(∀q,W.cell? ⟨E.rb,q,H⟩=#[ptr E.xb,V O E.F,V O s.used,V O s.t,V O s.d][q]?)/\(∀q,W.cell? ⟨E.xb,q,H⟩=#[ptr E.mb,ptr E.sb,r,(Q t s.gl.length c)][q]?)/\(∀q,W.cell? ⟨w.heap.size,q,H⟩=#[V Ys 36,V Yr n,lab,bv,ev,V O va][q]?)) ?hS λhS=>?_
 case hS=>exact d _ fL
 refine tj 0 ?_;iterate 9 refine tn ?_
 refine oj 10 λK k=>?_
 refine sc (J _ fL) ?_;rintro e L⟨rfl,⟨N,P⟩,R,-⟩;have v:=Kp.trans fL R;refine⟨_,U,k _ _ (d _ v) (λhS=>?_)⟩;simp only[pS];obtain⟨S,T,o,-,p,-,-,-,q,-⟩:=N.inst;have e2:=m _ v;rw[o]at e2;cases e2;obtain⟨a,W,e4,-,X,h0⟩:=pW p z;cases e4;have x:=Z (q L a n y iR U);have K2:=Z (Kp.trans fL P);refine tj 11 ?_;refine ej 12 λK k=>?_
 go_simp;refine k _ _ ?_;refine dj ?_;go_wp2;go_end0;exact⟨U,dP D x.1 (K2.trans x.2)⟩
def L7(h:ee E lo w fb s)(l:s.aW=I++[y])(c:s.aW.length<=1000000000)(o:s.st.length<=1000):Yy prog 197 #[ptr E.rb,ptr fb,eW 224 n lab bv ev va] w (ui E lo w fb {s with aW:=I++[IntKind.u64.wrap ((lJ s.st (wrap64 y)).getD 0)]}):=by
 have p:=h.mW;have B:I.length+1<=1000000000:=by rw[l]at c;simpa using c
 have d:=h.box (bX 224 n lab bv ev va);obtain⟨m,gv,f,-⟩:=h.inst;have g:=h.run.1;obtain⟨r,t,-⟩:=h.ne;have u:=Z (λW (k:Kp no (w.alloc (bX 224 n lab bv ev va)) W)=>xl (d.quiet k) l c);have a:∀W,Kp (one fb) (w.alloc (bX 224 n lab bv ev va)) W->(∀q,W.cell? ⟨E.rb,q,H⟩=#[ptr E.xb,V O E.F,V O s.used,V O s.t,V O s.d][q]?)/\(∀q,W.cell? ⟨E.xb,q,H⟩=#[ptr E.mb,ptr E.sb,m,gv][q]?):=λW k=>⟨(ae (k.az (ah g) r)).1,(ae (k.az (ah f) t)).1⟩
 go_enter func197,ntmps197;go_wp2_with fail;refine rj 16 16 (λW=>(∀q,W.cell? ⟨E.rb,q,H⟩=#[ptr E.xb,V O E.F,V O s.used,V O s.t,V O s.d][q]?)/\(∀q,W.cell? ⟨E.xb,q,H⟩=#[ptr E.mb,ptr E.sb,m,gv][q]?)) ?hS λhS=>?_
 case hS=>exact a _ fL
 refine tj 0 ?_;iterate 7 refine tn ?_
 refine oj 8 λK i=>?_
 refine sc (u _ fL) ?_;rintro e C⟨rfl,⟨k,q⟩,v,-⟩;have b:=Kp.trans fL v;refine⟨_,U,i _ _ (a _ b) (λhS=>?_)⟩;simp only[pS];have x:=Z (Kp.trans fL q);refine tj 9 ?_;refine oj 10 λK i=>?_
 refine sc (Nr k.sat _ o) ?_;rintro e D⟨rfl,j⟩;refine⟨_,U,i _ _ (a _ (b.trans j.any)) (λhS=>?_)⟩;simp only[pS];refine tj 11 ?_;iterate 4 refine tn ?_
 refine dj ?_;have i:=k.quiet j;have z:=Z (x.then j);go_wp2_with fail;refine(gQ i _ Vd).bw ?_;rintro F⟨A,b⟩;go_wp2;go_end0;exact⟨U,dP p A (z.trans b)⟩
end
def lM(mem:List UInt8)(p:Nat):Nat->Nat
 |0=>0
 |k+1=>lM mem p k+(mem.getD (p+k) 0).toNat*256^k
def JB(a:List UInt8)(p k:Nat):lM a p k<256^k:=by
 induction k with
 |zero=>exact Nat.one_pos
 |succ k ih=>
  rw[lM,VO];have b:(a.getD (p+k) 0).toNat<256:=XS _;have c:(a.getD (p+k) 0).toNat*256^k<=255*256^k:=Wm _ Y;omega
def SS(s:Mc)(p k:Nat)(d:k<=8):fF s p k=lM s.mem p k:=by
 induction k with
 |zero=>rfl
 |succ k ih=>
  rw[fF,lM,ih Y];have e:(mG s p k).toNat<256:=XS _;have a:2^(8*k)=256^k:=by simp_all[Nat.pow_mul]
  have b:(mG s p k).toNat*2^(8*k)<18446744073709551616:=by
   have c:2^(8*k)<=2^56:=V3 Vb Y;have f:(mG s p k).toNat*2^(8*k)<=255*2^56:=Nat.mul_le_mul Y c;omega
  rw[VT b,Yf,Ww,<-Wx (by simp_all[JB]),a,Ww,WL];rfl
def SU(h:j*256^(a+1)+lM D k (a+1)=lM D k b)(c:b<=8):(j*256+(D.getD (k+a) 0).toNat)*256^a+lM D k a=lM D k b/\j*256+(D.getD (k+a) 0).toNat<18446744073709551616:=by
 rw[lM,VO]at h;have e:(j*256+(D.getD (k+a) 0).toNat)*256^a+lM D k a=lM D k b:=by
  grind
 refine⟨e,?_⟩;have f:=JB D k b;have g:256^b<=256^8:=V3 Vb c;have d:0<256^a:=Nat.pow_pos Vb;have i:j*256+(D.getD (k+a) 0).toNat<=(j*256+(D.getD (k+a) 0).toNat)*256^a:=Nat.le_mul_of_pos_right _ d;omega
section
variable{E:ew}{lo:Nat->Prop}{w w':World}{fb n:Nat}{s:Rs}{lab bv ev:Value}{va:Int}
def yo(h:X.ownsRow 0 5 1 u l.length (aP l))(c:k<l.length):∃a b,u= Q (M ⟨a,0,H⟩) l.length b/\l.length<=b/\X.cell? ⟨a,k,H⟩=M (V Ys (l.getD k 0).toNat)/\X.frozen? ⟨a,k,H⟩=false:=by
 obtain⟨d,b,rfl,e⟩:=(aw.own h).aJ;obtain⟨a,rfl,f,g⟩:=nO h (k:=k) (x:= V Ys (l.getD k 0).toNat) (by grind[aP]);grind
def U8(h:ee E lo w fb s)(d:(j=40/\N=4)\/(j=41/\N=8)\/(j=45/\N=1)\/(j=44/\N=1))(o:s.aW=I++[(a:Int)])(G:a<4294967296)(J:n<4294967296)(p:s.mem.length<=1000000)(q:s.aW.length<=1000000000)(r:s.mem.length<a+n+N):
  Yy prog 220 #[ptr E.rb,ptr fb,eW j n lab bv ev va] w (ui E lo w fb {s with aW:=I,t:=4}):=by
 have u:=h.mW;have v:=Z (eC (h.box (bX j n lab bv ev va)) o q);have e:=Z (λc (k:Kp (iM (λb=>lo b\/b=w.heap.size)) (w.alloc (bX j n lab bv ev va)) c)=>(ae (k.az (ai w (bX j n lab bv ev va)) (λh=>h (Yp U)))).1);have K:(a:Int)<4294967296:=Y
 have L:(n:Int)<4294967296:=Y
 have P:(s.mem.length:Int)<=1000000:=Y
 have x:(s.mem.length:Int)<(a:Int)+n+N:=Y
 rcases d with⟨rfl,rfl⟩|⟨rfl,rfl⟩|⟨rfl,rfl⟩|⟨rfl,rfl⟩
 all_goals
  simp only[Wj]at x;go_enter func220,ntmps220;go_wp2_with fail;refine v.bw ?_;rintro c⟨k,l⟩;have y:=e c l;obtain⟨b,-,f,-⟩:=k.run;obtain⟨z,A⟩:=ae b;obtain⟨R,gv,g,i,-⟩:=k.inst;obtain⟨S,B,rfl,C⟩:=(aw.own i).aJ;obtain⟨D,F⟩:=ae g;have m:=Z (f c 4 iR);go_wp2;go_end0;exact⟨U,dP u m.1 (l.trans m.2)⟩
end
section
variable{E:ew}{lo:Nat->Prop}{w w':World}{fb n:Nat}{s:Rs}{lab bv ev:Value}{va:Int}
def U9(h:ee E lo w fb s)(h0:(N=40/\d=4)\/(N=41/\d=8)\/(N=45/\d=1)\/(N=44/\d=1))(ho:s.aW=I++[(a:Int)])(ha:a<4294967296)(hn:n<4294967296)(h1:s.mem.length<=1000000)(T:s.aW.length<=1000000000)(m:a+n+d<=s.mem.length):
  Yy prog 220 #[ptr E.rb,ptr fb,eW N n lab bv ev va] w (ui E lo w fb {s with aW:=I++[if N=44/\128<=lM s.mem (a+n) d then ((lM s.mem (a+n) d+4294967040:Nat):Int)else (lM s.mem (a+n) d:Int)]}):=by
 have hr:=h.mW;have hl:I.length+1<=1000000000:=by rw[ho]at T;simpa using T
 have HP:=Z (eC (h.box (bX N n lab bv ev va)) ho T);have C:=Z (λD (k:Kp (iM (λb=>lo b\/b=w.heap.size)) (w.alloc (bX N n lab bv ev va)) D)=>(ae (k.az (ai w (bX N n lab bv ev va)) (λh=>h (Yp U)))).1);obtain⟨p,hp⟩:=bL (a+n);rw[<-hp]at m⊢;have k2:IntKind.u64.wrap ((a:Int)+n)=(p:Int):=by rw[IntKind.wrap_u64];omega
 have hA:(p:Int)<=1000000:=Y
 have hM:(s.mem.length:Int)<=1000000:=Y
 have hL:(p:Int)+d<=(s.mem.length:Int):=Y
 have o:d<=8:=Y
 have l:=JB s.mem p d;obtain⟨c,F⟩:=bL ((if N=44/\128<=lM s.mem p d then ((lM s.mem p d+4294967040:Nat):Int)else (lM s.mem p d:Int)));rw[<-F];obtain⟨f,u⟩:=bL (lM s.mem p d);rw[<-u]at F l;have v:N≠44->c=(f:Int):=λe=>by rw[F,Va (λh=>e h.1)]
 have x:N=44->c=if 128<=f then ((f+4294967040:Nat):Int)else (f:Int):=λe=>by rw[F];simp[e]
 have G:=Z l;clear h ho ha hn h1 hp F l T;replace m:=Z m;replace o:=Z o;change Hid _ at hr v x u;rcases h0 with⟨rfl,rfl⟩|⟨rfl,rfl⟩|⟨rfl,rfl⟩|⟨rfl,rfl⟩
 all_goals
  simp only[Wj]at hL;go_enter func220,ntmps220;go_wp2_with fail;refine HP.out.bw ?_;rintro D⟨J,W⟩;have k3:=C.out D W;obtain⟨K,-,h2,-⟩:=J.run;obtain⟨k5,k6⟩:=ae K;obtain⟨mv,gv,L,y,-⟩:=J.inst;obtain⟨a1,k7,rfl,k8,-⟩:=yo y (k:=p) (by show p<s.mem.length;have:=m.out;omega);obtain⟨h3,k9⟩:=ae L;have z:∀g,g<s.mem.length->D.cell? ⟨a1,g,H⟩=M (V Ys (s.mem.getD g 0).toNat):=λg A=>by
   obtain⟨a2,w0,e,-,k0,-⟩:=yo y (k:=g) A;cases e;exact k0
  dsimp only at h3;have H1:=Z J;clear J K h2 L y HP C;change Hid _ at z W;go_wp2;go_loopw [13,14] (λnv iv wr=> ∃i j:Nat,j<=8/\p+j<=s.mem.length/\nv= V Yr i/\iv= V Yr j/\Hid (i*256^j+lM s.mem p j=f)/\D=wr) (λ_ iv _=>(intOf iv).toNat);case atStart=>
   have B:=m.out;first
    |exact⟨0,4,Vb,B,U,U,Z (by rw[u.out];simp),U⟩
    |exact⟨0,8,Vb,B,U,U,Z (by rw[u.out];simp),U⟩
    |exact⟨0,1,Vb,B,U,U,Z (by rw[u.out];simp),U⟩
  case round=>
   obtain⟨i,j,hj,P,rfl,rfl,X,rfl⟩:=hrel;by_cases h4:j=0
   .subst h4;have h5:i=f:=by have:=X.out;simpa[lM]using this
    subst h5;clear X hj P z;have q:=x.out;have r:=v.out;clear v x u o m;have l:=G.out;have hv:i<256->128<=i->c=((i+4294967040:Nat):Int)->IntKind.u64.wrap (IntKind.u64.wrap ((i:Int)+4294967296)-256)=c:=λJ k0 e=>by rw[e,IntKind.wrap_u64,IntKind.wrap_u64];omega
    clear G;first
     |(have e:=r Vb;have E1:=Z e;clear q r e l hv)
     |(have e:=q (by trivial);by_cases A:128<=i<;>first |(rw[Vi A]at e;have hu:=hv (by simpa using l) A e;have h6:(128:Int)<=(i:Int):=Y;clear q r e l hv A)|(rw[Va A]at e;have E1:=Z e;have h6:(i:Int)<128:=Y;clear q r e l hv A))
    all_goals
     go_wp2_with fail;refine(gQ H1.out _ Vd).bw ?_;rintro w6⟨k1,k4⟩;go_wp2;go_end0;first
      |exact⟨U,dP hr.out k1 (W.out.trans k4)⟩
      |(rw[E1.out];exact⟨U,dP hr.out k1 (W.out.trans k4)⟩)
   .obtain⟨g,rfl⟩:∃g,j=g+1:=⟨j-1,Y⟩;have t:=SU (by rw[X.out,u.out]) o.out;rw[<-u.out]at t;have w1:=z.out (p+g) Y;have w2:p+g<s.mem.length:=Y
    have hb:=XS (s.mem.getD (p+g) 0);generalize(s.mem.getD (p+g) 0).toNat=b at *;obtain⟨A1,R⟩:=bL (i*256);obtain⟨A2,S⟩:=bL (A1+b);have w3:IntKind.u64.wrap ((i:Int)*256)=(A1:Int):=by rw[IntKind.wrap_u64];omega
    have w4:IntKind.u64.wrap ((A1:Int)+(b:Int))=(A2:Int):=by rw[IntKind.wrap_u64];omega
    have w5:IntKind.u64.wrap (b:Int)=(b:Int):=by rw[IntKind.wrap_u64];omega
    rw[<-R,<-S]at t;have h7:=Z t.1;have h8:p+g<=s.mem.length:=Y
    have h9:g<=8:=Y
    clear t X R S P hb hj;go_wp2;exact⟨⟨A2,g,h9,h8,U,U,h7,trivial⟩,by simp[intOf]⟩
end
section
variable{E:ew}{lo:Nat->Prop}{w w':World}{fb n:Nat}{s:Rs}{lab bv ev:Value}{va:Int}
def L8(h:ee E lo w fb s)(d:(j=54/\N=4)\/(j=55/\N=8)\/(j=58/\N=1)){o:List Int}{v:Nat}(m:s.aW=o++[(a:Int),(v:Int)])(S:a<4294967296)(T:n<4294967296)(x:s.mem.length<=1000000)(e:s.aW.length<=1000000000)(y:s.mem.length<a+n+N):
  Yy prog 220 #[ptr E.rb,ptr fb,eW j n lab bv ev va] w (ui E lo w fb {s with aW:=o,t:=4}):=by
 have z:=h.mW;have W:o.length+2<=1000000000:=by rw[m]at e;simpa using e
 have A:=Z (eC (o:=o++[(a:Int)]) (v:=v) (h.box (bX j n lab bv ev va)) (by rw[m];simp) e);have c:=Z (λf (k:Kp (iM (λb=>lo b\/b=w.heap.size)) (w.alloc (bX j n lab bv ev va)) f)=>(ae (k.az (ai w (bX j n lab bv ev va)) (λh=>h (Yp U)))).1);have X:(a:Int)<4294967296:=Y
 have hN:(n:Int)<4294967296:=Y
 have hM:(s.mem.length:Int)<=1000000:=Y
 have B:(s.mem.length:Int)<(a:Int)+n+N:=Y
 rcases d with⟨rfl,rfl⟩|⟨rfl,rfl⟩|⟨rfl,rfl⟩
 all_goals
  simp only[Wj]at B;go_enter func220,ntmps220;go_wp2_with fail;refine A.bw ?_;rintro f⟨C,p⟩;have D:=c f p;go_wp2_with fail;refine(eC (o:=o) (v:=a) C U Vd).bw ?_;rintro q⟨r,F⟩;have b:=p.trans F;have G:=c q b;obtain⟨g,-,i,-⟩:=r.run;obtain⟨I,J⟩:=ae g;obtain⟨mv,gv,k,l,-⟩:=r.inst;obtain⟨ad,K,rfl,L⟩:=(aw.own l).aJ;obtain⟨P,R⟩:=ae k;have u:=Z (i q 4 iR);go_wp2;go_end0;exact⟨U,dP z u.1 (b.trans u.2)⟩
def aaa(h:ee E lo w fb s)(C:(j=54/\N=4)\/(j=55/\N=8)\/(j=58/\N=1)){o:List Int}{v:Nat}(D:s.aW=o++[(a:Int),(v:Int)])(ha:a<4294967296)(hn:n<4294967296)(F:s.mem.length<=1000000)(A:s.aW.length<=1000000000)(d:a+n+N<=s.mem.length):
  Yy prog 220 #[ptr E.rb,ptr fb,eW j n lab bv ev va] w (ui E lo w fb {s with aW:=o,mem:=tN s.mem (a+n) v N}):=by
 have hr:=h.mW;have hl:o.length+2<=1000000000:=by rw[D]at A;simpa using A
 have HP:=Z (eC (o:=o++[(a:Int)]) (v:=v) (h.box (bX j n lab bv ev va)) (by rw[D];simp) A);have l:=Z (λG (k:Kp (iM (λb=>lo b\/b=w.heap.size)) (w.alloc (bX j n lab bv ev va)) G)=>(ae (k.az (ai w (bX j n lab bv ev va)) (λh=>h (Yp U)))).1);obtain⟨p,hp⟩:=bL (a+n);rw[<-hp]at d⊢;have h4:IntKind.u64.wrap ((a:Int)+n)=(p:Int):=by rw[IntKind.wrap_u64];omega
 have hA:(p:Int)<=1000000:=Y
 have hM:(s.mem.length:Int)<=1000000:=Y
 have hL:(p:Int)+N<=(s.mem.length:Int):=Y
 have e:N<=8:=Y
 obtain⟨c,I⟩:=bL N;rw[<-I]at d e⊢;have J:=Z e;clear h D ha hn F hp A e;change Hid _ at I;replace d:=Z d;change Hid _ at hr;rcases C with⟨rfl,rfl⟩|⟨rfl,rfl⟩|⟨rfl,rfl⟩
 all_goals
  simp only[Wj]at hL;go_enter func220,ntmps220;go_wp2_with fail;refine HP.bw ?_;rintro G⟨h3,K⟩;have L:=l G K;go_wp2_with fail;refine(eC (o:=o) (v:=a) h3 U Vd).bw ?_;rintro w2⟨B,k2⟩;have m:=K.trans k2;have h5:=l w2 m;obtain⟨f,-⟩:=B.run;obtain⟨r,P⟩:=ae f;obtain⟨mv,gv,g,i,-⟩:=B.inst;obtain⟨ad,h6,rfl,h7⟩:=(aw.own i).aJ;obtain⟨q,R⟩:=ae g;clear h3 K k2 f g i HP l L;change Hid _ at B m;go_wp2;go_loopw [12] (λt wr=> ∃k:Nat,k<=c/\t= V Yr k/\Hid (ee E (λb=>lo b\/b=w.heap.size) wr fb {s with aW:=o,mem:=tN s.mem p v k})/\Hid (Kp (iM (λb=>lo b\/b=w.heap.size)) w2 wr)) (λt _=>c - (intOf t).toNat);case atStart=>exact⟨0,VB _,U,B,Z iR⟩
  case round=>
   obtain⟨k,hk,rfl,S,b⟩:=hrel;have T:=I.out;have e:=J.out;have W:=d.out;by_cases t:k=c
   .have u: ¬((k:Int)<(c:Int)):=Y
    rw[T]at u;simp only[Wj]at u;clear T e W hk;change Hid _ at t;go_wp2;go_end0;rw[<-t.out];exact⟨U,dP hr S (m.trans b)⟩
   .obtain⟨f,-⟩:=S.run;obtain⟨r,P⟩:=ae f;obtain⟨mv,gv,g,i,-,-,-,X,-⟩:=S.inst;have h0:(tN s.mem p v k).length=s.mem.length:=yn _ _ _ _;obtain⟨a1,h8,rfl,x,y,h9⟩:=yo i (k:=p+k) (by show _<(tN s.mem p v k).length;omega);obtain⟨q,R⟩:=ae g;dsimp only at q x y r;rw[h0]at q x;obtain⟨u,hu⟩:=bL (((tN s.mem p v k).getD (p+k) 0).toNat);rw[<-hu]at y;have k0:(k:Int)<8:=Y
    have k1:(p:Int)+(k:Int)<(s.mem.length:Int):=Y
    have h1:(k:Int)<(c:Int):=Y
    rw[T]at h1;have HB:=Z (show(v:Int)/2^(8*k)%256=(((UInt8.ofNat (v/2^(8*k))).toNat:Nat):Int)by rw[<-A6,IntKind.wrap_u8]);have h2:k+1<=c:=Y
    have z:=Z (X wr a1 (p+k) (UInt8.ofNat (v/2^(8*k))) iR U);go_wp2;rw[HB.out];exact⟨⟨k+1,h2,U,Z z.1,Z (b.trans z.2)⟩,by simp[intOf];omega⟩
end
section
variable{E:ew}{lo:Nat->Prop}{w w':World}{fb n:Nat}{s:Rs}{lab bv ev:Value}{va:Int}
def SV(h:ee E lo w fb s)(e:s.mem.length<=1000000)(f:s.aW.length<=1000000000):
  Yy prog 220 #[ptr E.rb,ptr fb,eW 63 n lab bv ev va] w (ui E lo w fb {s with aW:=s.aW++[((s.mem.length/64:Nat):Int)]}):=by
 have hr:=h.mW;have a:=h.box (bX 63 n lab bv ev va);have g:=λb t=>(h.P0 b t).1
 obtain⟨l,gv,c,d,-⟩:=h.inst;obtain⟨m,i,rfl,j⟩:=(aw.own d).aJ;have k:=λb t=>(ae (ah (o:= Yl b t) c)).1
 have HP:=gQ a ((s.mem.length/64:Nat):Int) f;have b:(s.mem.length:Int)<=1000000:=Y
 go_enter func220,ntmps220;exact Bb
def SW(h:ee E lo w fb s)(j:s.aW=I++[(a:Int)])(B:a<4294967296)(l:s.mem.length<=1000000)(c:s.aW.length<=1000000000)(m:4<s.mem.length/64+a):
  Yy prog 220 #[ptr E.rb,ptr fb,eW 64 n lab bv ev va] w (ui E lo w fb {s with aW:=I++[4294967295]}):=by
 have o:=h.mW;have C:I.length+1<=1000000000:=by rw[j]at c;simpa using c
 have p:=eC (h.box (bX 64 n lab bv ev va)) j c;have d:=λe (k:Kp (iM (λb=>lo b\/b=w.heap.size)) (w.alloc (bX 64 n lab bv ev va)) e)=>(ae (k.az (ai w (bX 64 n lab bv ev va)) (λh=>h (Yp U)))).1
 have D:(a:Int)<4294967296:=Y
 have F:(s.mem.length:Int)<=1000000:=Y
 have G:(4:Int)<(s.mem.length:Int)/64+(a:Int):=Y
 go_enter func220,ntmps220;go_wp2_with fail;refine p.bw ?_;rintro e⟨b,k⟩;have q:=d e k;obtain⟨f,-⟩:=b.run;obtain⟨r,t⟩:=ae f;obtain⟨J,gv,g,i,-⟩:=b.inst;obtain⟨K,u,rfl,v⟩:=(aw.own i).aJ;obtain⟨x,y⟩:=ae g;go_wp2_with fail;refine(gQ b _ Vd).bw ?_;rintro L⟨z,A⟩;go_wp2;go_end0;exact⟨U,dP o z (k.trans A)⟩
def SX(h:ee E lo w fb s)(N:s.aW=I++[(a:Int)])(P:s.mem.length<=1000000)(L:s.aW.length<=1000000000)(R:s.mem.length/64+a<=4):
  Yy prog 220 #[ptr E.rb,ptr fb,eW 64 n lab bv ev va] w (ui E lo w fb {s with aW:=I++[((s.mem.length/64:Nat):Int)],mem:=s.mem++List.replicate (a*64) 0}):=by
 have hr:=h.mW;have hl:I.length+1<=1000000000:=by rw[N]at L;simpa using L
 have HP:=eC (h.box (bX 64 n lab bv ev va)) N L;have r:=λg (k:Kp (iM (λb=>lo b\/b=w.heap.size)) (w.alloc (bX 64 n lab bv ev va)) g)=>(ae (k.az (ai w (bX 64 n lab bv ev va)) (λh=>h (Yp U)))).1
 obtain⟨i0,t,u,v,x⟩:=info_parts lj;obtain⟨q,hq⟩:=bL (a*64);rw[<-hq];have h6:IntKind.u64.wrap ((a:Int)*64)=(q:Int):=by rw[IntKind.wrap_u64];omega
 have hA:(a:Int)<=4:=Y
 have hM:(s.mem.length:Int)<=1000000:=Y
 have hL:(s.mem.length:Int)/64+(a:Int)<=4:=Y
 have y:s.mem.length+q<=2000000:=Y
 clear h N P R L hq;go_enter func220,ntmps220;go_wp2_with fail;refine HP.bw ?_;rintro g⟨S,T⟩;have h7:=r g T;obtain⟨f,-⟩:=S.run;obtain⟨h8,h9⟩:=ae f;obtain⟨mv,gv,c,i,-,-,-,-,-,z⟩:=S.inst;obtain⟨ad,A,rfl,X⟩:=(aw.own i).aJ;obtain⟨h0,k0⟩:=ae c;dsimp only at h0 X;have B:=aw.own i;clear S i HP r;go_wp2_with(at_builtin;go_loud (refine bj _ U _ _ 25 U g.heap.size 5 i0 (V Ys 0) 1 1 underlying25 t u v x U Vb _ 0 [] U ic _ s.mem.length _ U B (bV _) ?c3 ?c4 ?c5 ?_));case c3=>unfold maxLen;omega
 case c4=>omega
 case c5=>exact VP _
 intro v1 C d D h1;obtain⟨j,l,rfl⟩:=aA d;have m:Kp no g C:=(Kp.refl _ _).bS D (λk e=>by cases e);have h2:=m.size;have h3:∀q,C.frozen? ⟨E.xb,q,H⟩=false:=(ae (m.az c id)).2;have o:∀b,(Value.slice j s.mem.length l).ownBlock=M b->b≠E.xb:=λb hb e=>rq (aK d b hb) (au c)
 have p:∀W,Kp (λb=>(Value.slice j s.mem.length l).ownBlock=M b) C W->(∀q,W.cell? ⟨E.rb,q,H⟩=#[ptr E.xb,V O E.F,V O s.used,V O s.t,V O s.d][q]?)/\(∀q,W.cell? ⟨E.xb,q,H⟩=#[ptr E.mb,ptr E.sb,Q ad s.mem.length A,gv][q]?)/\(∀q,W.frozen? ⟨E.xb,q,H⟩=Yj):=λW k=>⟨(ae (k.az (m.az f id) (λe=>rq (aK d _ e) (au f)))).1,(ae (k.az (m.az c id) (λe=>o _ e U))).1,(ae (k.az (m.az c id) (λe=>o _ e U))).2⟩
 clear D h1 h3;go_wp2_with fail;refine rj 10 11 (λW=>(∀q,W.cell? ⟨E.rb,q,H⟩=#[ptr E.xb,V O E.F,V O s.used,V O s.t,V O s.d][q]?)/\(∀q,W.cell? ⟨E.xb,q,H⟩=#[ptr E.mb,ptr E.sb,Q ad s.mem.length A,gv][q]?)/\(∀q,W.frozen? ⟨E.xb,q,H⟩=Yj)) ?hS λhS=>?_
 case hS=>exact p _ fL
 refine tj 0 ?_;iterate 6 refine tn ?_
 refine oj 7 λK W=>?_
 refine iY _ Vg _ _ _ _ Vg g.heap.size 5 i0 (V Ys 0) 1 Yr Yr underlying25 underlying38 t u v x U U _ s.mem.length _ Vg (((Kp.refl no C).drew).own d bW) q Vg (by have:=y;unfold maxLen;omega) (cj y) (by simpa using h2) ?_;intro v2 w5 k F G;have J:=nu F G;have k5:=Kp.trans ((Kp.refl (λb=>(Value.slice j s.mem.length l).ownBlock=M b) C).drew) J.1;refine W _ _ (p _ k5) (λhS=>?_);obtain⟨h4,h5,rfl⟩:=aA k;refine tj 8 ?_;refine tj 9 ?_;refine ej 10 λK W=>?_
 go_simp;refine W _ _ ?_;refine dj ?_;have W:Kp no g w5:=m.comp k5 bW (λb hb e=>cj (aK d b e));have K:=z w5 (Q h4 (s.mem.length+q) h5) (s.mem++List.replicate q 0) W (by
  have e1:(s.mem++List.replicate q (0:UInt8)).length=s.mem.length+q:=Vc
  have e2:aP (s.mem++List.replicate q (0:UInt8))=aP s.mem++List.replicate q (V Ys 0):=by simp[aP]
  rw[e1,e2];exact k)
 have b:=Z K.1;have e:=T.trans K.2;clear K W k F G J k5 hS p z m d c f B T o;go_wp2_with fail;refine(gQ b _ Vd).bw ?_;rintro w6⟨k1,k4⟩;go_wp2;go_end0;exact⟨U,dP hr k1 (e.trans k4)⟩
end
end
section
open Go.RowKit
def Mc.bB(low:List Int)(cs:List (Nat×Nat×Nat))(r p:Nat)(m:Mc):Mc:=
 {m with stack:=low++m.stack,aD:=cs++m.aD.map (λc=>(low.length+c.1,low.length+c.2.1,r)),pos:=p}
section
variable{f:dH}{low:List Int}{cs:List (Nat×Nat×Nat)}{r p:Nat}{m m':Mc}{x:dQ}{t:Nat}
theorem cH:(m.bB low cs r p).stack.length=low.length+m.stack.length:=Vn
def di(h:0<m.stack.length):aU (m.bB low cs r p)=aU m:=by
 unfold aU;rw[cH];show(low++m.stack).getD _ 0=_
 grind
def dk(h:0<m.stack.length):aI (m.bB low cs r p)=(aI m).bB low cs r p:=by
 unfold aI;rw[cH];show Mc.mk ((low++m.stack).take _) _ _ _ _ _ _=Mc.mk (low++m.stack.take _) _ _ _ _ _ _
 rw[show low.length+m.stack.length-1=low.length+(m.stack.length-1)by omega,Wc];rfl
def fT(v:Int):dM (m.bB low cs r p) v=(dM m v).bB low cs r p:=by
 show Mc.mk ((low++m.stack)++[v]) _ _ _ _ _ _=Mc.mk (low++(m.stack++[v])) _ _ _ _ _ _
 rw[VD];rfl
def JD(a:Nat):∀z,fF (m.bB low cs r p) a z=fF m a z
 |0=>rfl
 |z+1=>by rw[fF,fF,JD a z];rfl
def tV{c:Nat×Nat×Nat}(h:m.aD=[c]):cE (m.bB low cs r p)=(low.length+c.1,low.length+c.2.1,r):=by
 simp_all[cE,Mc.bB]
theorem pY:(aI m).stack.length=m.stack.length-1:=by grind[aI]
def Bi(h:fD m k=Yk):fD (m.bB low cs r p) k=Yk/\0<m.stack.length:=by
 unfold fD at h⊢;simp only[Vo,Vx]at h⊢;have a:=h.1.1.1.1;rw[di a,cH];exact⟨⟨⟨⟨⟨Y,h.1.1.1.2⟩,h.1.1.2⟩,h.1.2⟩,h.2⟩,a⟩
def Bj{P:Prop}(h:P:=by
 split at h
 .cases h
 rename_i b;rw[WE]at b;obtain⟨d,c⟩:=Bi (low:=low) (cs:=cs) (r:=r) (p:=p) b;rw[d,Va Vb,di c,dk c,JD,fT];show(if m.mem.length<_ then _ else _)=_/\_
 split at h
 .rename_i a;cases h;rw[Vi a];exact⟨U,U,U⟩
 .rename_i a;cases h;rw[Va a];exact⟨U,U,U⟩):P:=h
theorem pZ(h:iy m k b=M (t,m')):iy (m.bB low cs r p) k b=M (t,m'.bB low cs r p)/\m'.aD=m.aD/\m'.pos=m.pos:=by
 unfold iy at h⊢;exact Bj
theorem Fq(h:iz m k=M (t,m')):iz (m.bB low cs r p) k=M (t,m'.bB low cs r p)/\m'.aD=m.aD/\m'.pos=m.pos:=by
 unfold iz at h⊢;exact Bj
theorem qa(h:ei m k b=M (t,m')):ei (m.bB low cs r p) k b=M (t,m'.bB low cs r p)/\m'.aD=m.aD/\m'.pos=m.pos:=by
 unfold ei at h⊢;split at h
 .cases h
 rename_i c;simp only[not_or]at c;obtain⟨c1,c2,c3,c4⟩:=c;rw[WE]at c4;have d:0<m.stack.length:=Y
 obtain⟨g,e⟩:=Bi (low:=low) (cs:=cs) (r:=r) (p:=p) c4;rw[di d,dk d,di e,dk e,g,cH,Va Vd];show(if m.mem.length<_ then _ else _)=_/\_
 split at h
 .rename_i a;cases h;rw[Vi a];exact⟨U,U,U⟩
 .rename_i a;cases h;rw[Va a];exact⟨U,U,U⟩
theorem Mb(h:kO m=M m'):kO (m.bB low cs r p)=M (m'.bB low cs r p)/\m'.aD=m.aD/\m'.pos=m.pos:=by
 unfold kO at h⊢;split at h
 .cases h
 rename_i b;simp only[not_or]at b;obtain⟨c1,c2,c3,c4⟩:=b;have c:0<m.stack.length:=Y
 rw[di c,dk c,cH,fT];have e:(m.bB low cs r p).mem=m.mem:=rfl;rw[e,Va Y];split at h
 .rename_i a;cases h;rw[Vi a];exact⟨U,U,U⟩
 .rename_i a;cases h;rw[Va a];refine⟨?_,U,U⟩;congr 1;exact fT (m:={aI m with mem:=m.mem++List.replicate _ 0}) _
theorem yp{a b:Option Mc}(d:∀{m'},a=M m'->b=M (m'.bB low cs r p)/\m'.aD=m.aD/\m'.pos=m.pos)(h:a.map (λc=>(0,c))=M (t,m')):b.map (λc=>(0,c))=M (t,m'.bB low cs r p)/\m'.aD=m.aD/\m'.pos=m.pos:=by
 simp_all
theorem Me(h:(if m.mem.length<=1000000 then M (0,dM m ((m.mem.length/64:Nat):Int))else H)=M (t,m')):
  (if (m.bB low cs r p).mem.length<=1000000 then M (0,dM (m.bB low cs r p) (((m.bB low cs r p).mem.length/64:Nat):Int))else H)=M (t,m'.bB low cs r p)/\m'.aD=m.aD/\m'.pos=m.pos:=by
 have e:(m.bB low cs r p).mem=m.mem:=rfl;rw[fT,e];split at h
 .rename_i a;cases h;rw[Vi a];exact⟨U,U,U⟩
 .cases h
theorem Fs(h:gR m x=M (t,m')):gR (m.bB low cs r p) x=M (t,m'.bB low cs r p)/\m'.aD=m.aD/\m'.pos=m.pos:=by
 unfold gR at h⊢;by_cases e:x.op=45
 .rw[Vi e]at h⊢;grind[pZ]
 rw[Va e]at h⊢;clear e;by_cases e:x.op=40
 .rw[Vi e]at h⊢;grind[pZ]
 rw[Va e]at h⊢;clear e;by_cases e:x.op=41
 .rw[Vi e]at h⊢;grind[pZ]
 rw[Va e]at h⊢;clear e;by_cases e:x.op=58
 .rw[Vi e]at h⊢;grind[qa]
 rw[Va e]at h⊢;clear e;by_cases e:x.op=54
 .rw[Vi e]at h⊢;grind[qa]
 rw[Va e]at h⊢;clear e;by_cases e:x.op=55
 .rw[Vi e]at h⊢;grind[qa]
 rw[Va e]at h⊢;clear e;by_cases e:x.op=63
 .rw[Vi e]at h⊢;grind[Me]
 rw[Va e]at h⊢;clear e;by_cases e:x.op=64
 .rw[Vi e]at h⊢;grind[yp,Mb]
 grind
def Bm{P:Prop}(h:P:=by
 split at h
 .cases h
 .rename_i b;have a:0<m.stack.length:=Y
  cases h;rw[cH,Va Y,di a,dk a,fT];exact⟨U,U,U⟩):P:=h
def yq{V:Int->Int}(h:(if m.stack.length=0 then H else M (0,dM (aI m) (V (aU m))))=M (t,m')):(if (m.bB low cs r p).stack.length=0 then H else M (0,dM (aI (m.bB low cs r p)) (V (aU (m.bB low cs r p)))))=M (t,m'.bB low cs r p)/\m'.aD=m.aD/\m'.pos=m.pos:=by
 exact Bm
theorem tW{a:Bool}(h:eV a k m=M (t,m')):eV a k (m.bB low cs r p)=M (t,m'.bB low cs r p)/\m'.aD=m.aD/\m'.pos=m.pos:=by
 unfold eV at h⊢;split at h
 .rename_i d;have b:0<m.stack.length:=Y
  have c:0<(aI m).stack.length:=by grind[pY]
  cases h;rw[cH,Vi Y,di b,dk b,di c,dk c,fT];exact⟨U,U,U⟩
 .cases h
theorem tX{a:Bool}(h:eH a k m=M (t,m')):eH a k (m.bB low cs r p)=M (t,m'.bB low cs r p)/\m'.aD=m.aD/\m'.pos=m.pos:=by
 unfold eH at h⊢;split at h
 .rename_i g;have b:0<m.stack.length:=Y
  have c:0<(aI m).stack.length:=by grind[pY]
  rw[cH,Vi Y,di b,dk b,di c,dk c];cases d:bU a k _ (aU m)with
  |none=>grind
  |some i=>
   rw[d]at h;simp only at h⊢;split at h
   .rename_i e;cases h;rw[Vi e,fT];exact⟨U,U,U⟩
   .rename_i e;cases h;rw[Va e];exact⟨U,U,U⟩
 .cases h
theorem yr{a:Bool}(h:gZ a k m=M (t,m')):gZ a k (m.bB low cs r p)=M (t,m'.bB low cs r p)/\m'.aD=m.aD/\m'.pos=m.pos:=by
 unfold gZ at h⊢;split at h
 .cases h
 .rename_i c;have b:0<m.stack.length:=Y
  cases h;rw[cH,di b,dk b,fT,Va Y];exact⟨U,U,U⟩
theorem Fu(h:dO m k=M (t,m')):dO (m.bB low cs r p) k=M (t,m'.bB low cs r p)/\m'.aD=m.aD/\m'.pos=m.pos:=by
 unfold dO at h⊢;by_cases e:k=69\/k=80
 .rw[Vi e]at h⊢;exact yq (V:=λa=>truth (a==0)) h
 rw[Va e]at h⊢;clear e;by_cases e:70<=k/\k<=79
 .rw[Vi e]at h⊢;grind[tW]
 rw[Va e]at h⊢;clear e;by_cases e:81<=k/\k<=90
 .rw[Vi e]at h⊢;grind[tW]
 rw[Va e]at h⊢;clear e;by_cases e:106<=k/\k<=120
 .rw[Vi e]at h⊢;grind[tX]
 rw[Va e]at h⊢;clear e;by_cases e:124<=k/\k<=138
 .rw[Vi e]at h⊢;grind[tX]
 rw[Va e]at h⊢;clear e;by_cases e:k=167
 .rw[Vi e]at h⊢;exact yq h
 rw[Va e]at h⊢;clear e;by_cases e:k=172
 .rw[Vi e]at h⊢;exact yq (V:=λa=>IntKind.u64.wrap _) h
 grind
theorem zr(j:m.aD=[(0,k,0)])(h:dw m x=M m'):dw (m.bB low cs r p) x=M (m'.bB low cs r p)/\m'.aD=m.aD/\m'.pos=m.pos:=by
 have g:=tV (low:=low) (cs:=cs) (r:=r) (p:=p) j;have i:(cE m).1=0:=by grind[cE]
 have c:0<(m.bB low cs r p).aD.length:=by show 0<(cs++m.aD.map _).length;rw[j];simp
 have d:∀v,0<m.stack.length->x.num+1<m.stack.length->({(aI m).bB low cs r p with stack:=((aI m).bB low cs r p).stack.set (low.length+x.num) v}:Mc)=({aI m with stack:=(aI m).stack.set x.num v}:Mc).bB low cs r p:=λv b a=>by
  show Mc.mk ((low++(aI m).stack).set _ _) _ _ _ _ _ _=Mc.mk (low++(aI m).stack.set _ _) _ _ _ _ _ _
  rw[WV _ _ Y,V8];rfl
 unfold dw at h⊢;rw[g];simp only[i,VU,Vv]at h⊢;by_cases e:x.op=32
 .rw[Vi e]at h⊢;split at h
  .rename_i a;cases h;rw[Vi ⟨c,by grind[cH]⟩,fT];refine⟨?_,U,U⟩;congr 3;show(low++m.stack).getD _ 0=_
   grind
  .cases h
 rw[Va e]at h⊢;clear e;by_cases e:x.op=33
 .rw[Vi e]at h⊢;split at h
  .rename_i a;have b:0<m.stack.length:=Y
   cases h;rw[Vi ⟨c,by grind[cH]⟩,di b,dk b,d _ b a.2];exact⟨U,U,U⟩
  .cases h
 rw[Va e]at h⊢;clear e;by_cases e:x.op=34
 .rw[Vi e]at h⊢;split at h
  .rename_i a;have b:0<m.stack.length:=Y
   cases h;rw[Vi ⟨c,by grind[cH]⟩,di b,dk b,d _ b a.2,fT];exact⟨U,U,U⟩
  .cases h
 rw[Va e]at h⊢;clear e;by_cases e:x.op=35
 .rw[Vi e]at h⊢;split at h
  .rename_i a;cases h;rw[fT];exact⟨Vi a,U,U⟩
  .cases h
 rw[Va e]at h⊢;clear e;by_cases e:x.op=36
 .rw[Vi e]at h⊢;split at h
  .rename_i a;cases h;rw[di a.2,dk a.2,cH];exact⟨Vi ⟨a.1,Y⟩,U,U⟩
  .cases h
 grind
theorem Bn:(∀{m'},fJ m=M m'->fJ (m.bB low cs r p)=M (m'.bB low cs r p)/\m'.aD=m.aD/\m'.pos=m.pos)/\(fK m=M (t,m')->fK (m.bB low cs r p)=M (t,m'.bB low cs r p)/\m'.aD=m.aD/\m'.pos=m.pos):=by
 constructor
 .intro m' h;unfold fJ at h⊢;exact Bm
 .intro h;unfold fK at h⊢;split at h
  .cases h
  .rename_i d;have b:0<m.stack.length:=Y
   have c:0<(aI m).stack.length:=by grind[pY]
   have e:(m.bB low cs r p).bG=m.bG:=rfl;rw[cH,di b,dk b,di c,dk c,e,Va Y];split at h
   .rename_i a;cases h;rw[Vi a];exact⟨U,U,U⟩
   .rename_i a;cases h;rw[Va a];exact⟨U,U,U⟩
def Bo(i:m.aD=[(0,k,0)])(a:x.op.toNat<=1\/17<=x.op.toNat)(h:bZ f m x=M (t,m')):bZ f (m.bB low cs r p) x=M (t,m'.bB low cs r p)/\m'.aD=m.aD/\m'.pos=m.pos:=by
 unfold bZ fE at h⊢;by_cases e:x.op=44
 .rw[Vi e]at h⊢;grind[Fq]
 rw[Va e]at h⊢;clear e;by_cases e:103<=x.op.toNat/\x.op.toNat<=105
 .rw[Vi e]at h⊢;grind[yr]
 rw[Va e]at h⊢;clear e;by_cases e:121<=x.op.toNat/\x.op.toNat<=123
 .rw[Vi e]at h⊢;grind[yr]
 rw[Va e]at h⊢;clear e;by_cases e:x.op.toNat<=16
 .rw[Vi e]at h⊢;unfold fB at h⊢;by_cases b:x.op=0
  .grind
  .rw[Va b]at h⊢;have e1:x.op=1:=by
    rcases a with a|a
    .refine Vp.1 ?_;have:x.op.toNat≠0:=λe=>b (Vp.1 e)
     grind
    .omega
   grind
 rw[Va e]at h⊢;clear e;by_cases e:x.op.toNat=26
 .rw[Vi e]at h⊢;split at h
  .cases h
  .rename_i g;cases h;rw[cH,Va Y,dk Y];exact⟨U,U,U⟩
 rw[Va e]at h⊢;clear e;by_cases e:x.op.toNat=27
 .rw[Vi e]at h⊢;split at h
  .cases h
  .rename_i g;have b:0<m.stack.length:=Y
   have c:0<(aI m).stack.length:=by grind[pY]
   have d:0<(aI (aI m)).stack.length:=by grind[pY]
   cases h;rw[cH,Va Y];unfold lB;rw[di b,dk b,di c,dk c,di d,dk d,fT];exact⟨U,U,U⟩
 rw[Va e]at h⊢;clear e;by_cases e:x.op.toNat<=36
 .rw[Vi e]at h⊢;grind[yp,zr]
 rw[Va e]at h⊢;clear e;by_cases e:x.op.toNat<=64
 .rw[Vi e]at h⊢;grind[Fs]
 rw[Va e]at h⊢;clear e;by_cases e:x.op.toNat<=66
 .rw[Vi e]at h⊢;cases h;rw[fT];exact⟨U,U,U⟩
 rw[Va e]at h⊢;clear e;by_cases e:x.op.toNat=224
 .rw[Vi e]at h⊢;exact yp (Bn (t:=t) (m':=m')).1 h
 rw[Va e]at h⊢;clear e;by_cases e:x.op.toNat=225
 .rw[Vi e]at h⊢;grind[Bn]
 rw[Va e]at h⊢;grind[Fu]
end
def nL(m:Mc):Nat:=(cE m).2.1
def fG(m:Mc):Nat:=m.stack.length-nL m
def jC(m:Mc)(h k:Nat):Mc:=lV m (nL m+h) k
abbrev GoR:=Option (Nat×Int×Mc)
abbrev Q5:=Nat->Option Nd->List Nd->Nat->Mc->GoR
def SZ:List Int->List UInt8->Bool
 |[],[]=>Yk
 |v::vs,t::ts=>decide (0<=v/\v<if t=127 then 4294967296 else 18446744073709551616)&&SZ vs ts
 |_,_=>Yj
theorem yt:∀{v:List Int} {t:List UInt8},SZ v t=Yk↔iP v t
 |[],[]=>⟨λ_=>trivial,λ_=>rfl⟩
 |v::a,t::b=>by
  rw[SZ,Vo,Vx,yt];rfl
 |[],_::_=>⟨λh=>(by cases h),λh=>h.elim⟩
 |_::_,[]=>⟨λh=>(by cases h),λh=>h.elim⟩
def qc(op:UInt8)(n:Nat)(m:Mc):Bool:=decide (((op=32\/op=33\/op=34)->n<nL m)/\((op=26\/op=33\/op=34\/op=36)->1<=fG m)/\(op=27->3<=fG m))&&(match eu op with
 |none=>Yk
 |some r=>decide (r.bM=4\/((r.bM≠3->n<4294967296)/\r.takes.length<=fG m/\SZ (m.stack.drop (m.stack.length-r.takes.length)) r.takes=Yk)))
def S0{r:mQ}(h:qc g k K=Yk)(a:eu g=M r)(b:r.bM≠4):(r.bM≠3->k<4294967296)/\r.takes.length<=fG K/\iP (K.stack.drop (K.stack.length-r.takes.length)) r.takes:=by
 unfold qc at h;rw[a,Vo,Vx,Vx]at h;grind[yt]
def qL(h:qc g k K=Yk):((g=32\/g=33\/g=34)->k<nL K)/\((g=26\/g=33\/g=34\/g=36)->1<=fG K)/\(g=27->3<=fG K):=by
 unfold qc at h;grind
def P6(f:dH)(n:Nat)(m:Mc):Mc:={m with stack:=m.stack.drop (m.stack.length - (f.funcs.getD n du).typ.1.length)++List.replicate ((f.funcs.getD n du).aZ - (f.funcs.getD n du).typ.1.length) 0,aD:=[(0,(f.funcs.getD n du).aZ,0)]}
def P7(f:dH)(n:Nat)(m m1:Mc):Mc:={m1 with stack:=m.stack.take (m.stack.length - (f.funcs.getD n du).typ.1.length)++m1.stack.drop (m1.stack.length - (f.funcs.getD n du).typ.2.length),aD:=m.aD}
def mJ(f:dH)(B:List (List Nd))(G:Q5)(d n:Nat)(m:Mc):GoR:=
 if fG m<(f.funcs.getD n du).typ.1.length\/f.funcs.length<=n then H
 else if d=16 then M (6,-1,m)
 else match G (d+1) H (B.getD n []) 0 (P6 f n m)with
  |none=>H
  |some (t,_,m1)=>if t≠0 then M (t,-1,{m1 with stack:=m.stack,aD:=m.aD})else if fG m1<(f.funcs.getD n du).typ.2.length then H else M (0,-1,P7 f n m m1)
def C7(o:Int)(m:Mc):GoR:=if 1000000<o then H else M (0,o,m)
def fU(f:dH)(B:List (List Nd))(G:Q5)(d:Nat)(x:Nd)(m:Mc):GoR:=
 if x.op=2\/x.op=3 then G d (M x) x.body (fG m) m
 else if x.op=4 then (if fG m=0 then H else G d (M x) (if aU m=0 then x.els else x.body) (fG m-1) (aI m))
 else if x.op=12\/x.op=15 then (x.ag[0]?).bind (λo=>C7 o m)
 else if x.op=13 then (if fG m=0 then H else if aU m=0 then M (0,-1,aI m)else (x.ag[0]?).bind (λo=>C7 o (aI m)))
 else if x.op=14 then (if fG m=0\/aU m<0\/1000000<x.ag.length then H else (x.ag[min (aU m).toNat (x.ag.length-1)]?).bind (λo=>C7 o (aI m)))
 else if x.op=16 then mJ f B G d x.n m
 else if (decide (x.op.toNat<=1\/17<=x.op.toNat)&&qc x.op x.n m)=Yk then (bZ f m ⟨x.op,x.n,0,0,0⟩).map (λr=>(r.1,-1,r.2))else H
def go(f:dH)(B:List (List Nd)):Nat->Q5
 |0,_,_,_,_,_=>H
 |g+1,d,M x,l,h,m=>match go f B g d H l 0 m with
  |none=>H
  |some (t,out,m1)=>if t≠0 then M (t,-1,m1)else if 0<out then M (0,out-1,m1)else if out<0 then M (0,-1,m1)
   else if fG m1<h+(if x.op=3 then 0 else x.value)then H else if x.op=3 then go f B g d (M x) l h (jC m1 h 0)else M (0,-1,jC m1 h x.value)
 |_+1,_,H,[],_,m=>M (0,-1,m)
 |g+1,d,H,x::l,_,m=>if m.aC=0 then M (5,-1,m)else
  match fU f B (go f B g) d x {m with aC:=m.aC-1}with
  |none=>H
  |some (t,out,m1)=>if t≠0\/0<=out then M (t,out,m1)else go f B g d H l 0 m1
section
variable{f:dH}{B:List (List Nd)}
def Bp{G a:Q5}(b:∀d o l h K r,G d o l h K=M r->a d o l h K=M r){x:Nd}{r:Nat×Int×Mc}(h:fU f B G d x K=M r):fU f B a d x K=M r:=by
 unfold fU at h⊢;split at h
 .grind
 rename_i e;rw[Va e];clear e;split at h
 .grind
 rename_i e;rw[Va e];clear e;split at h
 .grind
 rename_i e;rw[Va e];clear e;split at h
 .grind
 rename_i e;rw[Va e];clear e;split at h
 .grind
 rename_i e;rw[Va e];clear e;split at h
 .rename_i e;rw[Vi e];unfold mJ at h⊢;grind
 grind
def qd:∀(g:Nat) (d:Nat) (o:Option Nd) (l:List Nd) (h:Nat) (m:Mc) (r:Nat×Int×Mc),go f B g d o l h m=M r->go f B (g+1) d o l h m=M r
 |0,_,_,_,_,_,_,e=>by cases e
 |g+1,d,M x,l,h,m,r,e=>by
  rw[go]at e⊢;cases c:go f B g d H l 0 m with
  |none=>grind
  |some v=>
   obtain⟨t,i,n⟩:=v;rw[c]at e;rw[qd g _ _ _ _ _ _ c];simp only at e⊢;split at e
   .rename_i a;rw[Vi a];exact e
   rename_i a;rw[Va a];split at e
   .rename_i b;rw[Vi b];exact e
   rename_i b;rw[Va b];split at e
   .rename_i j;rw[Vi j];exact e
   rename_i j;rw[Va j];by_cases p:fG n<h+(if x.op=3 then 0 else x.value)
   .rw[Vi p]at e;cases e
   rw[Va p]at e⊢;split at e
   .rename_i k;rw[Vi k];exact qd g _ _ _ _ _ _ e
   .rename_i k;rw[Va k];exact e
 |g+1,d,H,[],h,m,r,e=>by rw[go]at e⊢;exact e
 |g+1,d,H,x::l,h,m,r,e=>by
  rw[go]at e⊢;split at e
  .rename_i a;rw[Vi a];exact e
  rename_i a;rw[Va a];cases c:fU f B (go f B g) d x {m with aC:=m.aC-1}with
  |none=>rw[c]at e;cases e
  |some v=>
   obtain⟨t,i,n⟩:=v;rw[c]at e;rw[Bp (λd o l h m r j=>qd g d o l h m r j) c];simp only at e⊢;split at e
   .rename_i b;rw[Vi b];exact e
   .rename_i b;rw[Va b];exact qd g _ _ _ _ _ _ e
def xm(c:k<=b){o:Option Nd}{l:List Nd}{r:Nat×Int×Mc}(e:go f B k d o l a K=M r):go f B b d o l a K=M r:=by
 induction c with
 |refl=>exact e
 |step _ ih=>exact qd _ _ _ _ _ _ _ ih
def S1(a:k<=b){x:Nd}{r:Nat×Int×Mc}(h:fU f B (go f B k) d x K=M r):fU f B (go f B b) d x K=M r:=Bp (λ_ _ _ _ _ _ e=>xm a e) h
end
end
section
open Go.RowKit
open Rf (ptr bh)
structure Rs.Is(s:Rs)(m:Mc):Prop where
 stack:m.stack=s.bg++s.aW
 aD:m.aD=[(0,s.bg.length,0)]
 mem:m.mem=s.mem
 gl:m.gl=s.gl
 bG:lY s.st m.bG
 k8:s.st.length<=8
 Bw:s.gl.length<=1000000
 JI:s.bg.length<=1000000
theorem nQ(h:K.stack=I++[y]):aU K=y:=by grind[aU]
theorem lZ(h:K.stack=I++[y]):aI K={K with stack:=I}:=by simp_all[aI]
section
variable{E:ew}{lo:Nat->Prop}{w w':World}{fb n:Nat}{s:Rs}{lab bv ev:Value}{va:Int}{m m':Mc}
def Rs.Is.nl(h:s.Is m):nL m=s.bg.length:=by unfold nL cE;grind[aD]
def Rs.Is.Mr(h:s.Is m):fG m=s.aW.length:=by unfold fG;rw[h.nl,h.stack];simp
theorem Rs.Is.Uo(h:s.Is m)(b:D.length<=fG m)(a:iP (m.stack.drop (m.stack.length-D.length)) D):∃o top,s.aW=o++top/\iP top D:=by
 rw[h.Mr]at b;refine⟨s.aW.take (s.aW.length-D.length),s.aW.drop (s.aW.length-D.length),(Xn _ _).symm,?_⟩;rw[h.stack,Vn,show s.bg.length+s.aW.length-D.length=s.bg.length+(s.aW.length-D.length)by omega,Wd]at a;exact a
def iP.aam(h:iP I [g]):∃a:Nat,I=[(a:Int)]/\dh g (a:Int):=by
 obtain⟨v,rfl,b⟩:=h.one;obtain⟨a,rfl⟩:=WN b.any.1;grind
def iP.acX{u:UInt8}(h:iP I [g,u]):∃a b:Nat,I=[(a:Int),(b:Int)]/\dh g (a:Int)/\dh u (b:Int):=by
 obtain⟨x,y,rfl,c,d⟩:=iP.split (x:=[g]) (y:=[u]) h;obtain⟨a,rfl,e⟩:=c.aam;obtain⟨b,rfl,f⟩:=d.aam;grind
def dh.w2{b:Bool}(h:dh (vk b) (a:Int)):a<top b:=by
 have:=h.wIn;cases b
 .simp only[Vq,VL]at this;grind[Fy]
 .simp only[VK]at this;grind[Un]
def rX{b:Rs}(h:ee E lo w fb s)(a:k=40\/k=41\/k=44\/k=45\/k=54\/k=55\/k=58\/k=63\/k=64)(c:∀lo w,ee E lo w fb s->Yy prog 220 #[ptr E.rb,ptr fb,eW k n lab bv ev va] w (ui E lo w fb b)):Yy prog 197 #[ptr E.rb,ptr fb,eW k n lab bv ev va] w (ui E lo w fb b):=by
 have d:=h.mW;have e:=Z (c _ _ (h.box (bX k n lab bv ev va)));rcases a with rfl |rfl |rfl |rfl |rfl |rfl |rfl |rfl |rfl
 all_goals
  go_enter func197,ntmps197;go_wp2_with fail;refine e.bw ?_;rintro i⟨f,g⟩;go_wp2;go_end0;exact⟨U,dP d f g⟩
end
section
variable{E:ew}{lo:Nat->Prop}{w w':World}{fb n t:Nat}{s s':Rs}{lab bv ev:Value}{va:Int}{m m':Mc}
def After(E:ew)(lo:Nat->Prop)(w:Yw)(fb:Nat)(s:Rs)(t:Nat)(m':Mc):Ending->Yw->Prop:=λr w'=>r= Yq (Yu #[])/\Kp (iM lo) w w'/\ ∃s',ee E lo w' fb s'/\s'.t=t/\s'.used=s.used/\s'.d=s.d/\(t=0->s'.Is m'/\s'.aW.length<=s.aW.length+1/\s'.bg.length=s.bg.length)
def ch(a:s'.t=t)(b:s'.used=s.used)(c:s'.d=s.d)(h:t=0->s'.Is m'/\s'.aW.length<=s.aW.length+1/\s'.bg.length=s.bg.length):∀r w',ui E lo w fb s' r w'->After E lo w fb s t m' r w':=λ_ w' ⟨d,e,f⟩=>⟨d,f,s',e,a,b,c,h⟩
theorem Rs.Is.st(h:s.Is m){x:List Int}(a:s.aW=I++x):m.stack=(s.bg++I)++x:=by grind[stack]
theorem Rs.Is.len(h:s.Is m):m.stack.length=s.bg.length+s.aW.length:=by grind[stack]
def lC{l:List Int}(h:1<=l.length):∃o v,l=o++[v]:=⟨l.take (l.length-1),l.getD (l.length-1) 0,by
 grind[List.take_append_drop,List.drop_eq_getElem_cons]⟩
theorem Rs.Is.aW(h:s.Is m):Rs.Is {s with aW:=I} {m with stack:=s.bg++I}:=⟨U,h.aD,h.mem,h.gl,h.bG,h.k8,h.Bw,h.JI⟩
theorem Rs.Is.put{o:List Int}(h:s.Is m)(v:Int):Rs.Is {s with aW:=o++[v]} (dM {m with stack:=s.bg++o} v):=⟨by show(s.bg++o)++[v]=_;simp,h.aD,h.mem,h.gl,h.bG,h.k8,h.Bw,h.JI⟩
def gH(op:UInt8):Option (Nat×List UInt8):=(eu op).map λr=>(r.bM,r.takes)
def Fz(h:gH g=M (b,D))(c:b≠4)(d:qc g n m=Yk)(hi:s.Is m):(b≠3->n<4294967296)/\ ∃o top,s.aW=o++top/\iP top D:=by
 unfold gH at h;cases a:eu g with
 |none=>grind
 |some r=>
  rw[a]at h;cases h;obtain⟨e,f,i⟩:=S0 d a c;grind[Rs.Is.Uo]
def jT{ty:UInt8}(h:gH g=M (b,[ty]))(c:b≠4)(d:qc g n m=Yk)(hi:s.Is m):(b≠3->n<4294967296)/\ ∃o,∃a:Nat,s.aW=o++[(a:Int)]/\dh ty (a:Int):=by
 obtain⟨f,o,top,i,e⟩:=Fz h c d hi;obtain⟨a,rfl,j⟩:=e.aam;grind
def qR{ty tz:UInt8}(h:gH g=M (b,[ty,tz]))(d:b≠4)(e:qc g n m=Yk)(hi:s.Is m):(b≠3->n<4294967296)/\ ∃o,∃a c:Nat,s.aW=o++[(a:Int),(c:Int)]/\dh ty (a:Int)/\dh tz (c:Int):=by
 obtain⟨i,o,top,j,f⟩:=Fz h d e hi;obtain⟨a,c,rfl,k,l⟩:=f.acX;grind
theorem Rs.Is.hO{c:Int}(hi:s.Is m)(d:s.aW=I++[y,c]):aU m=c/\aU (aI m)=y/\aI (aI m)={m with stack:=s.bg++I}/\2<=m.stack.length:=by
 have a:m.stack=((s.bg++I)++[y])++[c]:=by grind[stack]
 have b:(aI m).stack=(s.bg++I)++[y]:=by rw[lZ a]
 refine⟨nQ a,nQ b,by rw[lZ b,lZ a],Ve⟩
theorem Rs.Is.one(hi:s.Is m)(a:s.aW=I++[y]):aU m=y/\aI m={m with stack:=s.bg++I}/\1<=m.stack.length:=by
 grind[nQ,lZ,st]
abbrev fp(E:ew)(lo:Nat->Prop)(w:Yw)(fb:Nat)(s:Rs)(op n:Nat)(lab bv ev:Yx)(va:Int)(t:Nat)(m':Mc):Prop:=Yy prog 197 #[ptr E.rb,ptr fb,eW op n lab bv ev va] w (After E lo w fb s t m')
def iB{f:dH}(b:66<g.toNat)(c:g.toNat≠224/\g.toNat≠225)(a: ¬(103<=g.toNat/\g.toNat<=105)/\ ¬(121<=g.toNat/\g.toNat<=123)):bZ f m ⟨g,n,0,0,0⟩=dO m g.toNat:=by
 rw[fx ⟨Ve,a⟩];unfold fE;grind
def oW(h:g.toNat=k):g=UInt8.ofNat k:=by rw[<-h];simp
def abM{o:List Int}{c v:Int}(h:I=o++[y,c]):(o++[v]).length<=I.length+1:=by rw[h];simp
def FA{o:List Int}{v:Int}(h:I=o++[y]):(o++[v]).length<=I.length+1:=by rw[h];simp
def Qr(a:Bool):∀k,k<10->gH (UInt8.ofNat ((if a then 81 else 70)+k))=M (0,[vk a,vk a]):=by cases a<;>decide +kernel
def Ms(a:Bool):∀k,k<15->gH (UInt8.ofNat ((if a then 124 else 106)+k))=M (0,[vk a,vk a]):=by cases a<;>decide +kernel
def Ia(a:Bool):∀k,k<3->gH (UInt8.ofNat ((if a then 121 else 103)+k))=M (0,[vk a]):=by cases a<;>decide +kernel
def FB(b:Bool)(k:Nat)(d:k<3)(c:a<top b):0<=dG b k (a:Int)/\dG b k (a:Int)<=127:=by
 have e:=Vm c (pq b);have f:(a:Int)<18446744073709551616:=Y
 match k,d with
 |0,_=>
  rw[sR];cases b
  .rw[Fy]at c;have g:=Lib.bitLen_le (a:Int).toNat 32 Vb Y;show 0<=64 - (Lib.bitLen (a:Int).toNat:Int) - (64-32)/\64 - (Lib.bitLen (a:Int).toNat:Int) - (64-32)<=127
   omega
  .have g:=qs a f;show 0<=64 - (Lib.bitLen (a:Int).toNat:Int) - (64-64)/\64 - (Lib.bitLen (a:Int).toNat:Int) - (64-64)<=127
   omega
 |1,_=>
  grind[sS,NS]
 |2,_=>
  simp[sT,Ee]
variable(h:ee E lo w fb s)(hi:s.Is m)(hst:s.t=0){op:UInt8}(hf:qc op n m=true)(hs:bZ E.f m ⟨op,n,0,0,0⟩=some (t,m'))(qT:s.aW.length<=1000000)
include h hi hst hf hs qT
theorem Qs(d:Bool)(k:Nat)(g:k<10)(b:op.toNat=(if d then 81 else 70)+k):fp E lo w fb s op.toNat n lab bv ev va t m':=by
 have i:gH op=M (0,[vk d,vk d]):=by
  rw[oW b];exact Qr d k g
 obtain⟨-,o,a,c,f,j,l⟩:=qR i Vb hf hi;obtain⟨e1,e2,e3,e4⟩:=hi.hO f;have e:bZ E.f m ⟨op,n,0,0,0⟩=eV d k m:=by
  rw[iB (by rw[b];split <;>omega) (by rw[b];split <;>omega) (by rw[b];split <;>omega),b];unfold dO;cases d
  .simp only[Vq,VL];rw[Va Y,Vi ⟨Y,Y⟩,show 70+k-70=k by omega]
  .simp only[VK];rw[Va Y,Va Y,Vi ⟨Y,Y⟩,show 81+k-81=k by omega]
 rw[e]at hs;unfold eV at hs;rw[Vi e4,e1,e2,e3]at hs;cases hs;rw[b];exact(aal h d k g j.w2 l.w2 f Y).mono (ch hst U U (λ_=>⟨hi.put _,abM f,U⟩))
theorem JJ(d:Bool)(k:Nat)(u:k<15)(b:op.toNat=(if d then 124 else 106)+k):fp E lo w fb s op.toNat n lab bv ev va t m':=by
 have y:gH op=M (0,[vk d,vk d]):=by
  rw[oW b];exact Ms d k u
 obtain⟨-,o,a,c,f,z,A⟩:=qR y Vb hf hi;obtain⟨e1,e2,e3,e4⟩:=hi.hO f;have e:bZ E.f m ⟨op,n,0,0,0⟩=eH d k m:=by
  rw[iB (by rw[b];split <;>omega) (by rw[b];split <;>omega) (by rw[b];split <;>omega),b];unfold dO;cases d
  .simp only[Vq,VL];rw[Va Y,Va Y,Va Y,Vi ⟨Y,Y⟩,show 106+k-106=k by omega]
  .simp only[VK];rw[Va Y,Va Y,Va Y,Va Y,Vi ⟨Y,Y⟩,show 124+k-124=k by omega]
 rw[e]at hs;unfold eH at hs;rw[Vi e4,e1,e2,e3]at hs;cases g:bU d k a c with
 |none=>rw[g]at hs;cases hs
 |some p=>
  obtain⟨v,x⟩:=p;rw[g]at hs;simp only at hs;have i:t=x/\(x=0->m'=dM {m with stack:=s.bg++o} v):=by
   split at hs
   .rename_i j;cases hs;exact⟨j.symm,λ_=>rfl⟩
   .rename_i j;cases hs;exact⟨U,λe=>absurd e j⟩
  obtain⟨rfl,j⟩:=i;rw[b];refine(Tj h d k u z.w2 A.w2 g hst f Y).mono ?_;rintro r D⟨l,B,C⟩;have q:t=0->Rs.Is {s with aW:=o++[l],t:=t} m'/\(o++[l]).length<=s.aW.length+1/\s.bg.length=s.bg.length:=λe=>⟨by rw[j e,B e,e,<-hst];exact hi.put _,abM f,U⟩
  exact ch (s:=s) (s':={s with aW:=o++[l],t:=t}) U U U q _ _ C
theorem FC(c:Bool)(k:Nat)(d:k<3)(b:op.toNat=(if c then 121 else 103)+k):fp E lo w fb s op.toNat n lab bv ev va t m':=by
 have j:gH op=M (0,[vk c]):=by
  rw[oW b];exact Ia c k d
 obtain⟨-,o,a,f,i⟩:=jT j Vb hf hi;obtain⟨e1,e2,e3⟩:=hi.one f;have e:bZ E.f m ⟨op,n,0,0,0⟩=gZ c k m:=by
  unfold bZ;simp only;have g: ¬op=44:=λe=>by rw[e]at b;cases c<;>simp at b<;>omega
  rw[Va g,b];cases c
  .simp only[Vq,VL];rw[Vi ⟨Y,Y⟩,show 103+k-103=k by omega]
  .simp only[VK];rw[Va Y,Vi ⟨Y,Y⟩,show 121+k-121=k by omega]
 rw[e]at hs;unfold gZ at hs;rw[e1,e2]at hs;split at hs
 .cases hs
 cases hs;rw[b];have g:IntKind.u64.wrap (dG c k a)=dG c k a:=by
  have:=FB c k d i.w2;rw[IntKind.wrap_u64];omega
 rw[g];exact(Qq h c k d i.w2 f Y).mono (ch hst U U (λ_=>⟨hi.put _,FA f,U⟩))
theorem Tm(b:op.toNat=69\/op.toNat=80):fp E lo w fb s op.toNat n lab bv ev va t m':=by
 have f:∃d,gH op=M (0,[d]):=by
  rcases b with e|e<;>rw[oW e]
  .exact⟨127,by decide +kernel⟩
  .exact⟨126,by decide +kernel⟩
 obtain⟨d,e⟩:=f;obtain⟨-,o,a,c,g⟩:=jT e Vb hf hi;obtain⟨e1,e2,e3⟩:=hi.one c;rw[iB Y Y Y]at hs;unfold dO at hs;rw[Vi b,Va Y,e1,e2]at hs;cases hs;exact(SJ h b c Y).mono (ch hst U U (λ_=>⟨hi.put _,FA c,U⟩))
theorem Tn(b:op.toNat=167):fp E lo w fb s op.toNat n lab bv ev va t m':=by
 have d:gH op=M (0,[126]):=by rw[oW b];decide +kernel
 obtain⟨-,o,a,c,e⟩:=jT d Vb hf hi;obtain⟨e1,e2,e3⟩:=hi.one c;rw[iB Y Y Y,b]at hs;unfold dO at hs;rw[Va Y,Va Y,Va Y,Va Y,Va Y,Vi U,Va Y,e1,e2]at hs;cases hs;rw[b];exact(Tk h (cj e.any) c Y).mono (ch hst U U (λ_=>⟨hi.put _,FA c,U⟩))
theorem Tp(b:op.toNat=172):fp E lo w fb s op.toNat n lab bv ev va t m':=by
 have d:gH op=M (0,[127]):=by rw[oW b];decide +kernel
 obtain⟨-,o,a,c,e⟩:=jT d Vb hf hi;obtain⟨e1,e2,e3⟩:=hi.one c;rw[iB Y Y Y,b]at hs;unfold dO at hs;rw[Va Y,Va Y,Va Y,Va Y,Va Y,Va Y,Vi U,Va Y,e1,e2]at hs;cases hs;rw[b];exact(Tl h (cj e.M1) c Y).mono (ch hst U U (λ_=>⟨hi.put _,FA c,U⟩))
theorem Tq(a:op.toNat=1\/op.toNat=173):fp E lo w fb s op.toNat n lab bv ev va t m':=by
 have e:bZ E.f m ⟨op,n,0,0,0⟩=M (0,m):=by
  rcases a with e|e
  .rw[oW e];rfl
  .rw[iB Y Y Y,e];rfl
 rw[e]at hs;cases hs;exact(SI h a).mono (ch hst U U (λ_=>⟨hi,Yh _,U⟩))
theorem Tr(a:op.toNat=0):fp E lo w fb s op.toNat n lab bv ev va t m':=by
 have e:bZ E.f m ⟨op,n,0,0,0⟩=M (1,m):=by rw[oW a];rfl
 rw[e]at hs;cases hs;rw[a];exact(SH h).mono (ch U U U (nofun))
theorem Qt(a:op.toNat=65\/op.toNat=66):fp E lo w fb s op.toNat n lab bv ev va t m':=by
 have e:bZ E.f m ⟨op,n,0,0,0⟩=M (0,dM m n):=by rcases a with e|e<;>(rw[oW e];rfl)
 rw[e]at hs;cases hs;refine(P3 h a Y).mono (ch hst U U (λ_=>⟨?_,Vc,U⟩));have:=hi.put (o:=s.aW) n;rw[<-hi.stack]at this;exact this
theorem Ts(a:op.toNat=26):fp E lo w fb s op.toNat n lab bv ev va t m':=by
 have c:1<=s.aW.length:=by rw[<-hi.Mr];exact(qL hf).2.1 (Yo (oW a))
 obtain⟨o,v,b⟩:=lC c;obtain⟨e1,e2,e3⟩:=hi.one b;have e:bZ E.f m ⟨op,n,0,0,0⟩=(if m.stack.length=0 then H else M (0,aI m)):=by rw[oW a];rfl
 rw[e,Va Y,e2]at hs;cases hs;rw[a];exact(SG h b Y).mono (ch hst U U (λ_=>⟨hi.aW,by show o.length<=_;rw[b];simp;omega,U⟩))
theorem Mt(d:op.toNat=27):fp E lo w fb s op.toNat n lab bv ev va t m':=by
 have z:3<=s.aW.length:=by rw[<-hi.Mr];exact(qL hf).2.2 (oW d)
 obtain⟨j,c,f⟩:=lC (l:=s.aW) Y;have A:s.aW.length=j.length+1:=by rw[f];simp
 obtain⟨k,b,g⟩:=lC (l:=j) Y;have B:j.length=k.length+1:=by rw[g];simp
 obtain⟨o,a,i⟩:=lC (l:=k) Y;have p:s.aW=o++[a,b,c]:=by rw[f,g,i];simp
 have q:=hi.st f;have r:=lZ q;have u:(aI m).stack=(s.bg++k)++[b]:=by rw[r,g];simp
 have v:=lZ u;have x:(aI (aI m)).stack=(s.bg++o)++[a]:=by rw[v,i];simp
 have y:=lZ x;have e:bZ E.f m ⟨op,n,0,0,0⟩=(if m.stack.length<3 then H else M (0,lB m)):=by rw[oW d];rfl
 rw[e,Va (by rw[hi.len];omega)]at hs;unfold lB at hs;rw[nQ q,nQ u,nQ x,y,v,r]at hs;cases hs;rw[d];exact(L6 h p Y).mono (ch hst U U (λ_=>⟨hi.put _,by show(o++[_]).length<=_;rw[p];simp,U⟩))
end
section
variable{E:ew}{lo:Nat->Prop}{w w':World}{fb n t:Nat}{s s':Rs}{lab bv ev:Value}{va:Int}{m m':Mc}
def Rs.Is.yX(hi:s.Is m):(cE m).1=0/\0<m.aD.length:=by unfold cE;rw[hi.aD];simp
def Tt{o:Option Int}(h:o.isSome=Yj):o.isNone=true:=by
 simp_all
def Tu(h:k<256):Hj (k:Int)=if 128<=k then ((k+4294967040:Nat):Int)else (k:Int):=by
 unfold Hj;have e:IntKind.i8.wrap (k:Int)=if 128<=k then (k:Int)-256 else (k:Int):=by
  show(if (Yk&&decide ((k:Int)%256≥128))=Yk then (k:Int)%256-256 else (k:Int)%256)=_
  grind
 grind[lN,Fy]
variable(h:ee E lo w fb s)(hi:s.Is m)(hst:s.t=0){op:UInt8}(hf:qc op n m=true)(hs:bZ E.f m ⟨op,n,0,0,0⟩=some (t,m'))(qT:s.aW.length<=1000000)
include h hi hst hf hs qT
theorem Tv(a:op.toNat=32):fp E lo w fb s op.toNat n lab bv ev va t m':=by
 have b:n<s.bg.length:=by rw[<-hi.nl];exact(qL hf).1 (Yo (oW a))
 have e:bZ E.f m ⟨op,n,0,0,0⟩=(if 0<m.aD.length/\(cE m).1+n<m.stack.length then M (dM m (m.stack.getD ((cE m).1+n) 0))else H).map (λs'=>(0,s')):=by rw[oW a];rfl
 rw[e,Vi ⟨hi.yX.2,by rw[hi.yX.1,hi.len];omega⟩,hi.yX.1,Vv]at hs;have e1:m.stack.getD n 0=s.bg.getD n 0:=by rw[hi.stack,Vl,Vl,VC b]
 rw[e1]at hs;cases hs;rw[a];refine(SM h b hi.JI Y).mono (ch hst U U (λ_=>⟨?_,Vc,U⟩));have:=hi.put (o:=s.aW) (s.bg.getD n 0);rw[<-hi.stack]at this;exact this
theorem Tw(a:op.toNat=33\/op.toNat=34):fp E lo w fb s op.toNat n lab bv ev va t m':=by
 have c:n<s.bg.length:=by rw[<-hi.nl];exact(qL hf).1 (Yp (a.imp oW oW))
 have g:1<=s.aW.length:=by rw[<-hi.Mr];exact(qL hf).2.1 (by rcases a with e|e<;>simp[oW e])
 obtain⟨o,v,b⟩:=lC g;obtain⟨e1,e2,e3⟩:=hi.one b;have i:s.aW.length=o.length+1:=by rw[b];simp
 have d:0<m.aD.length/\(cE m).1+n+1<m.stack.length:=⟨hi.yX.2,by rw[hi.yX.1,hi.len];omega⟩;have f:(s.bg++o).set n v=s.bg.set n v++o:=XZ _ _ c;rcases a with a|a
 .have e:bZ E.f m ⟨op,n,0,0,0⟩=(if 0<m.aD.length/\(cE m).1+n+1<m.stack.length then M {aI m with stack:=(aI m).stack.set ((cE m).1+n) (aU m)}else H).map (λs'=>(0,s')):=by rw[oW a];rfl
  rw[e,Vi d,hi.yX.1,Vv,e1,e2]at hs;simp only[f]at hs;cases hs;rw[a];exact(SN h c hi.JI b Y).mono (ch hst U U (λ_=>⟨⟨U,by rw[VW];exact hi.aD,hi.mem,hi.gl,hi.bG,hi.k8,hi.Bw,by rw[VW];exact hi.JI⟩,by show o.length<=_;omega,Vc⟩))
 .have e:bZ E.f m ⟨op,n,0,0,0⟩=(if 0<m.aD.length/\(cE m).1+n+1<m.stack.length then M (dM {aI m with stack:=(aI m).stack.set ((cE m).1+n) (aU m)} (aU m))else H).map (λs'=>(0,s')):=by rw[oW a];rfl
  rw[e,Vi d,hi.yX.1,Vv,e1,e2]at hs;simp only[f]at hs;cases hs;rw[a];exact(SP h c hi.JI b Y).mono (ch hst U U (λ_=>⟨⟨by show(s.bg.set n v++o)++[v]=s.bg.set n v++s.aW;rw[b,VD],by rw[VW];exact hi.aD,hi.mem,hi.gl,hi.bG,hi.k8,hi.Bw,by rw[VW];exact hi.JI⟩,Yh _,Vc⟩))
theorem Tx(a:op.toNat=35):fp E lo w fb s op.toNat n lab bv ev va t m':=by
 have e:bZ E.f m ⟨op,n,0,0,0⟩=(if n<m.gl.length then M (dM m (m.gl.getD n 0))else H).map (λs'=>(0,s')):=by rw[oW a];rfl
 rw[e,hi.gl]at hs;split at hs
 .rename_i b;cases hs;rw[a];refine(SQ h b hi.Bw Y).mono (ch hst U U (λ_=>⟨?_,Vc,U⟩));have:=hi.put (o:=s.aW) (s.gl.getD n 0);rw[<-hi.stack]at this;exact this
 .cases hs
theorem Tz(a:op.toNat=36):fp E lo w fb s op.toNat n lab bv ev va t m':=by
 have c:1<=s.aW.length:=by rw[<-hi.Mr];exact(qL hf).2.1 (by simp[oW a])
 obtain⟨o,v,b⟩:=lC c;obtain⟨e1,e2,e3⟩:=hi.one b;have e:bZ E.f m ⟨op,n,0,0,0⟩=(if n<m.gl.length/\0<m.stack.length then M {aI m with gl:=m.gl.set n (aU m)}else H).map (λs'=>(0,s')):=by rw[oW a];rfl
 rw[e,hi.gl,e1,e2]at hs;split at hs
 .rename_i d;cases hs;rw[a];exact(SR h d.1 hi.Bw b Y).mono (ch hst U U (λ_=>⟨⟨U,hi.aD,hi.mem,U,hi.bG,hi.k8,by rw[VW];exact hi.Bw,hi.JI⟩,by show o.length<=_;rw[b];simp;omega,U⟩))
 .cases hs
theorem Mu(b:op.toNat=224):fp E lo w fb s op.toNat n lab bv ev va t m':=by
 have d:gH op=M (0,[126]):=by rw[oW b];decide +kernel
 obtain⟨-,o,a,c,f⟩:=jT d Vb hf hi;obtain⟨e1,e2,e3⟩:=hi.one c;have e:bZ E.f m ⟨op,n,0,0,0⟩=(fJ m).map (λs'=>(0,s')):=by rw[oW b];rfl
 rw[e]at hs;unfold fJ at hs;rw[Va Y,e1,e2,<-hi.bG.get]at hs;cases hs;rw[b];exact(L7 h c Y (cj hi.k8)).mono (ch hst U U (λ_=>⟨hi.put _,FA c,U⟩))
theorem Mw(b:op.toNat=225):fp E lo w fb s op.toNat n lab bv ev va t m':=by
 have p:gH op=M (0,[126,126]):=by rw[oW b];decide +kernel
 obtain⟨-,o,a,c,j,q,r⟩:=qR p Vb hf hi;obtain⟨e1,e2,e3,e4⟩:=hi.hO j;have e:bZ E.f m ⟨op,n,0,0,0⟩=fK m:=by rw[oW b];rfl
 rw[e]at hs;unfold fK at hs;have f:=hi.k8;rw[<-hi.bG.len,e1,e2,e3,<-hi.bG.get,Va Y]at hs;have l:=Jz s.st (wrap64 a);rw[b];refine(Mq h j Y f).mono ?_;by_cases g:(lJ s.st (wrap64 a)).isNone=Yk/\s.st.length=8
 .rw[Vi g]at hs;cases hs;have d:kP s.st (wrap64 a)=false:=by
   rw[l];have i:=g.1;cases k:lJ s.st (wrap64 a)with
   |none=>rfl
   |some x=>rw[k]at i;cases i
  exact ch (by rw[d,g.2];rfl) U U (λe=>by cases e)
 .rw[Va g]at hs;cases hs;have d: ¬(kP s.st (wrap64 a)=Yj/\s.st.length=8):=λe=>g ⟨Tt (by rw[<-l];exact e.1),e.2⟩
  have i:(kP s.st (wrap64 a)|| !(s.st.length==8))=true:=by
   cases k:kP s.st (wrap64 a)with
   |true=>rfl
   |false=>simp;exact λe=>d ⟨k,e⟩
  refine ch (by rw[i];exact hst) U U (λ_=>⟨⟨U,hi.aD,hi.mem,hi.gl,?_,?_,hi.Bw,hi.JI⟩,by show o.length<=_;rw[j];simp;omega,U⟩)
  .show lY (wQ s.st (wrap64 a) (wrap64 c)) _
   rw[Fe d];exact hi.bG.put _ _
  .show(wQ s.st (wrap64 a) (wrap64 c)).length<=8
   rw[Fe d,Jy,<-Jz];split
   .exact f
   .rename_i k;have:s.st.length≠8:=λe=>d ⟨by simpa using k,e⟩
    omega
end
section
variable{E:ew}{lo:Nat->Prop}{w w':World}{fb n t:Nat}{s s':Rs}{lab bv ev:Value}{va:Int}{m m':Mc}
variable(h:ee E lo w fb s)(hi:s.Is m)(hst:s.t=0){op:UInt8}(hf:qc op n m=true)(hs:bZ E.f m ⟨op,n,0,0,0⟩=some (t,m'))(qT:s.aW.length<=1000000)
include h hi hst hf hs qT
theorem De{z:Nat}(d:(op.toNat=40/\z=4)\/(op.toNat=41/\z=8)\/(op.toNat=45/\z=1)\/(op.toNat=44/\z=1)):fp E lo w fb s op.toNat n lab bv ev va t m':=by
 have u:gH op=M (1,[127]):=by rcases d with e|e|e|e<;>(rw[oW e.1];decide +kernel)
 obtain⟨j,o,a,k,p⟩:=jT u Vb hf hi;have j:=j Vb;have p:=p.M1;obtain⟨e1,e2,e3⟩:=hi.one k;have l:z<=8:=Y
 obtain⟨b,q,e⟩:∃b:Int,b=(if op.toNat=44/\128<=lM s.mem (a+n) z then ((lM s.mem (a+n) z+4294967040:Nat):Int)else (lM s.mem (a+n) z:Int))/\bZ E.f m ⟨op,n,0,0,0⟩=if fD m n=Yj then H else if m.mem.length<(aU m).toNat+n+z then M (4,aI m)else M (0,dM (aI m) b):=by
  have c:fF m ((aU m).toNat+n) z=lM s.mem (a+n) z:=by rw[SS _ _ _ l,hi.mem,e1];rfl
  refine⟨_,U,?_⟩;rcases d with⟨e,rfl⟩|⟨e,rfl⟩|⟨e,rfl⟩|⟨e,rfl⟩
  .have f:(if op.toNat=44/\128<=lM s.mem (a+n) 4 then ((lM s.mem (a+n) 4+4294967040:Nat):Int)else (lM s.mem (a+n) 4:Int))=(lM s.mem (a+n) 4:Int):=Va Y;rw[f,<-c];rw[oW e];rfl
  .have f:(if op.toNat=44/\128<=lM s.mem (a+n) 8 then ((lM s.mem (a+n) 8+4294967040:Nat):Int)else (lM s.mem (a+n) 8:Int))=(lM s.mem (a+n) 8:Int):=Va Y;rw[f,<-c];rw[oW e];rfl
  .have f:(if op.toNat=44/\128<=lM s.mem (a+n) 1 then ((lM s.mem (a+n) 1+4294967040:Nat):Int)else (lM s.mem (a+n) 1:Int))=(lM s.mem (a+n) 1:Int):=Va Y;rw[f,<-c];rw[oW e];rfl
  .have i:=JB s.mem (a+n) 1;have f:(if op.toNat=44/\128<=lM s.mem (a+n) 1 then ((lM s.mem (a+n) 1+4294967040:Nat):Int)else (lM s.mem (a+n) 1:Int))=Hj (lM s.mem (a+n) 1:Int):=by
    rw[Tu (by simpa using i)];by_cases g:128<=lM s.mem (a+n) 1
    .rw[Vi ⟨e,g⟩,Vi g]
    .rw[Va (λh=>g h.2),Va g]
   rw[f,<-c];rw[oW e];rfl
 rw[e]at hs;split at hs
 .cases hs
 rename_i f;simp only[fD,WE,Vo,Vx]at f;have g:s.mem.length<=1000000:=by rw[<-hi.mem];exact f.2
 rw[e1,e2,hi.mem,V9]at hs;have r:∀{c:Nat},((c=40/\z=4)\/(c=41/\z=8)\/(c=45/\z=1)\/(c=44/\z=1))->c=40\/c=41\/c=44\/c=45\/c=54\/c=55\/c=58\/c=63\/c=64:=λh=>Y
 split at hs
 .rename_i c;cases hs;exact(rX h (r d) (λlo w h=>U8 h d k Y j g Y c)).mono (ch U U U (λe=>by cases e))
 .rename_i c;cases hs;have i:=hi.put (o:=o) b;rw[hi.mem,q]at i;rw[q];exact(rX h (r d) (λlo w h=>U9 h d k Y j g Y Y)).mono (ch hst U U (λ_=>⟨i,FA k,U⟩))
theorem Ib{z:Nat}(b:(op.toNat=54/\z=4)\/(op.toNat=55/\z=8)\/(op.toNat=58/\z=1)):fp E lo w fb s op.toNat n lab bv ev va t m':=by
 have j:∃l,gH op=M (1,[127,l]):=by
  rcases b with e|e|e<;>rw[oW e.1]
  .exact⟨127,by decide +kernel⟩
  .exact⟨126,by decide +kernel⟩
  .exact⟨127,by decide +kernel⟩
 obtain⟨l,j⟩:=j;obtain⟨g,o,a,c,i,p,r⟩:=qR j Vb hf hi;have g:=g Vb;have p:=p.M1;obtain⟨e1,e2,e3,e4⟩:=hi.hO i;have e:bZ E.f m ⟨op,n,0,0,0⟩=ei m n z:=by rcases b with⟨e,rfl⟩|⟨e,rfl⟩|⟨e,rfl⟩<;>(rw[oW e];rfl)
 rw[e]at hs;unfold ei at hs;split at hs
 .cases hs
 rename_i k;have d:s.mem.length<=1000000:=by
  have f:fD (aI m) n=true:=by
   cases f:fD (aI m) n with
   |true=>rfl
   |false=>exact absurd (Yp (Yp (Yp f))) k
  simp only[fD,Vo,Vx]at f;rw[<-hi.mem];exact f.2
 rw[e1,e2,e3,hi.mem,V9,V9]at hs;have q:op.toNat=40\/op.toNat=41\/op.toNat=44\/op.toNat=45\/op.toNat=54\/op.toNat=55\/op.toNat=58\/op.toNat=63\/op.toNat=64:=Y
 split at hs
 .rename_i f;cases hs;exact(rX h q (λlo w h=>L8 h b i Y g d Y f)).mono (ch U U U (λe=>by cases e))
 .rename_i f;cases hs;exact(rX h q (λlo w h=>aaa h b i Y g d Y Y)).mono (ch hst U U (λ_=>⟨⟨U,hi.aD,U,hi.gl,hi.bG,hi.k8,hi.Bw,hi.JI⟩,by show o.length<=_;rw[i];simp;omega,U⟩))
theorem go_size(a:op.toNat=63):fp E lo w fb s op.toNat n lab bv ev va t m':=by
 have e:bZ E.f m ⟨op,n,0,0,0⟩=(if m.mem.length<=1000000 then M (0,dM m ((m.mem.length/64:Nat):Int))else H):=by rw[oW a];rfl
 rw[e,hi.mem]at hs;split at hs
 .rename_i b;cases hs;rw[a];refine(rX h Y (λlo w h=>SV h b Y)).mono (ch hst U U (λ_=>⟨?_,Vc,U⟩));have:=hi.put (o:=s.aW) ((s.mem.length/64:Nat):Int);rw[<-hi.stack]at this;exact this
 .cases hs
theorem TA(b:op.toNat=64):fp E lo w fb s op.toNat n lab bv ev va t m':=by
 have i:gH op=M (0,[127]):=by rw[oW b];decide +kernel
 obtain⟨-,o,a,c,g⟩:=jT i Vb hf hi;have g:=g.M1;obtain⟨e1,e2,e3⟩:=hi.one c;have e:bZ E.f m ⟨op,n,0,0,0⟩=(kO m).map (λs'=>(0,s')):=by rw[oW b];rfl
 rw[e]at hs;unfold kO at hs;rw[e1,e2,hi.mem,V9]at hs;split at hs
 .cases hs
 rename_i j;split at hs
 .rename_i d;cases hs;rw[b];have f:=hi.put (o:=o) 4294967295;rw[hi.mem]at f;exact(rX h Y (λlo w h=>SW h c Y Y Y d)).mono (ch hst U U (λ_=>⟨f,FA c,U⟩))
 .rename_i d;cases hs;rw[b];refine(rX h Y (λlo w h=>SX h c Y Y Y)).mono (ch hst U U (λ_=>⟨⟨?_,hi.aD,U,hi.gl,hi.bG,hi.k8,hi.Bw,hi.JI⟩,FA c,U⟩));show(s.bg++o)++[_]=s.bg++(o++[_])
  rw[VD]
theorem Qu(S:op.toNat<=1\/17<=op.toNat):fp E lo w fb s op.toNat n lab bv ev va t m':=by
 by_cases N:op.toNat=0
 .exact Tr h hi hst hf hs qT N
 by_cases c1:op.toNat=1\/op.toNat=173
 .exact Tq h hi hst hf hs qT c1
 by_cases b:op.toNat=26
 .exact Ts h hi hst hf hs qT b
 by_cases d:op.toNat=27
 .exact Mt h hi hst hf hs qT d
 by_cases g:op.toNat=32
 .exact Tv h hi hst hf hs qT g
 by_cases f:op.toNat=33\/op.toNat=34
 .exact Tw h hi hst hf hs qT f
 by_cases i:op.toNat=35
 .exact Tx h hi hst hf hs qT i
 by_cases j:op.toNat=36
 .exact Tz h hi hst hf hs qT j
 by_cases k:op.toNat=40
 .exact De h hi hst hf hs qT (z:=4) (Yo ⟨k,U⟩)
 by_cases l:op.toNat=41
 .exact De h hi hst hf hs qT (z:=8) (Yp (Yo ⟨l,U⟩))
 by_cases o:op.toNat=45
 .exact De h hi hst hf hs qT (z:=1) (Yp (Yp (Yo ⟨o,U⟩)))
 by_cases p:op.toNat=44
 .exact De h hi hst hf hs qT (z:=1) (Yp (Yp (Yp ⟨p,U⟩)))
 by_cases q:op.toNat=54
 .exact Ib h hi hst hf hs qT (z:=4) (Yo ⟨q,U⟩)
 by_cases r:op.toNat=55
 .exact Ib h hi hst hf hs qT (z:=8) (Yp (Yo ⟨r,U⟩))
 by_cases u:op.toNat=58
 .exact Ib h hi hst hf hs qT (z:=1) (Yp (Yp ⟨u,U⟩))
 by_cases v:op.toNat=63
 .exact go_size h hi hst hf hs qT v
 by_cases x:op.toNat=64
 .exact TA h hi hst hf hs qT x
 by_cases G:op.toNat=65\/op.toNat=66
 .exact Qt h hi hst hf hs qT G
 by_cases y:op.toNat=69\/op.toNat=80
 .exact Tm h hi hst hf hs qT y
 by_cases I:70<=op.toNat/\op.toNat<=79
 .exact Qs h hi hst hf hs qT Yj (op.toNat-70) Y Vd
 by_cases J:81<=op.toNat/\op.toNat<=90
 .exact Qs h hi hst hf hs qT Yk (op.toNat-81) Y Vd
 by_cases P:103<=op.toNat/\op.toNat<=105
 .exact FC h hi hst hf hs qT Yj (op.toNat-103) Y Vd
 by_cases K:106<=op.toNat/\op.toNat<=120
 .exact JJ h hi hst hf hs qT Yj (op.toNat-106) Y Vd
 by_cases R:121<=op.toNat/\op.toNat<=123
 .exact FC h hi hst hf hs qT Yk (op.toNat-121) Y Vd
 by_cases L:124<=op.toNat/\op.toNat<=138
 .exact JJ h hi hst hf hs qT Yk (op.toNat-124) Y Vd
 by_cases A:op.toNat=167
 .exact Tn h hi hst hf hs qT A
 by_cases B:op.toNat=172
 .exact Tp h hi hst hf hs qT B
 by_cases C:op.toNat=224
 .exact Mu h hi hst hf hs qT C
 by_cases D:op.toNat=225
 .exact Mw h hi hst hf hs qT D
 exfalso
 rw[fx ⟨p,Y,Y⟩]at hs;unfold fE at hs;simp only at hs;have a:∀c:UInt8,op.toNat≠c.toNat-> ¬op=c:=λc h e=>h (by rw[e])
 by_cases c:op.toNat<=36
 .rw[Va Y,Va b,Va d,Vi c]at hs;unfold dw at hs;rw[Va (a 32 g),Va (a 33 (λe=>f (Yo e))),Va (a 34 (λe=>f (Yp e))),Va (a 35 i),Va (a 36 j)]at hs;cases hs
 rw[Va Y,Va b,Va d,Va c]at hs;by_cases F:op.toNat<=64
 .rw[Vi F]at hs;unfold gR at hs;rw[Va (a 45 o),Va (a 40 k),Va (a 41 l),Va (a 58 u),Va (a 54 q),Va (a 55 r),Va (a 63 v),Va (a 64 x)]at hs;cases hs
 rw[Va F,Va Y,Va C,Va D]at hs;unfold dO at hs;rw[Va y,Va I,Va J,Va K,Va L,Va A,Va B,Va (λe=>c1 (Yp e))]at hs;cases hs
end
def qU{m':Mc}{out:Int}(h:C7 y K=M (k,out,m')):k=0/\out=y/\m'=K/\y<=1000000:=by
 unfold C7 at h;grind
def vw{P:Prop}(h:P:=by
 obtain⟨o,-,a⟩:=V2.1 h;obtain⟨-,rfl,-,b⟩:=qU a;exact b):P:=h
def FD{f:dH}{B:List (List Nd)}{G:Q5}(b:∀d o l h K k y a,G d o l h K=M (k,y,a)->y<=1000000){x:Nd}{a:Mc}(h:fU f B G d x K=M (k,y,a)):y<=1000000:=by
 unfold fU at h;split at h
 .grind
 split at h
 .grind
 split at h
 .exact vw
 split at h
 .split at h
  .cases h
  split at h
  .grind
  .exact vw
 split at h
 .split at h
  .cases h
  .exact vw
 grind[mJ,Option.map_eq_some_iff]
def vy{f:dH}{B:List (List Nd)}:∀(g d:Nat) (o:Option Nd) (l:List Nd) (h:Nat) (m:Mc) (t:Nat) (a:Int) (c:Mc),go f B g d o l h m=M (t,a,c)->a<=1000000
 |0,_,_,_,_,_,_,_,_,e=>by cases e
 |g+1,d,M x,l,h,m,t,a,c,e=>by
  rw[go]at e;cases b:go f B g d H l 0 m with
  |none=>grind
  |some v=>
   obtain⟨n,o,i⟩:=v;have j:=vy g _ _ _ _ _ _ _ _ b;rw[b]at e;simp only at e;split at e
   .cases e;decide
   split at e
   .cases e;omega
   split at e
   .cases e;decide
   by_cases k:fG i<h+(if x.op=3 then 0 else x.value)
   .rw[Vi k]at e;cases e
   rw[Va k]at e;split at e
   .exact vy g _ _ _ _ _ _ _ _ e
   .cases e;decide
 |g+1,d,H,[],h,m,t,a,c,e=>by rw[go]at e;cases e;decide
 |g+1,d,H,x::l,h,m,t,a,c,e=>by
  rw[go]at e;split at e
  .cases e;decide
  cases b:fU f B (go f B g) d x {m with aC:=m.aC-1}with
  |none=>rw[b]at e;cases e
  |some v=>
   obtain⟨n,o,i⟩:=v;have j:=FD (vy g) b;rw[b]at e;simp only at e;split at e
   .cases e;exact j
   .exact vy g _ _ _ _ _ _ _ _ e
structure Rs.Up(s:Rs)(m:Mc):Prop where
 mem:m.mem=s.mem
 gl:m.gl=s.gl
 bG:lY s.st m.bG
 k8:s.st.length<=8
 Bw:s.gl.length<=1000000
section
variable{E:ew}{lo:Nat->Prop}{w w':World}{fb:Nat}{s:Rs}{m:Mc}
theorem Rs.Is.has(h:s.Is m):s.Up m:=⟨h.mem,h.gl,h.bG,h.k8,h.Bw⟩
def Uq(E:ew)(lo:Nat->Prop)(w:Yw)(fb d t:Nat)(out:Int)(m':Mc):Ending->Yw->Prop:=λr w'=>r= Yq (V O out)/\Kp (iM lo) w w'/\ ∃s',ee E lo w' fb s'/\s'.t=t/\s'.d=d/\E.F=s'.used+m'.aC/\(t=0->s'.Is m'/\s'.aW.length+m'.aC<=1000000)
def oK(E:ew)(g:Nat):Prop:= ∀{lo:Nat->Prop} {w:Yw} {fb:Nat} {s:Rs} {d:Nat} {l:List Nd} {lv:Yx} {m:Mc} {t:Nat} {out:Int} {m':Mc},ee E lo w fb s->s.Is m->s.t=0->s.d=d->d<=16->E.F=s.used+m.aC->s.aW.length+m.aC<=1000000->bh w E.ro lv l->go E.f E.B g d H l 0 m=M (t,out,m')->
 Yy prog 162 #[ptr E.rb,ptr fb,lv] w (Uq E lo w fb d t out m')
def abN(E:ew)(lo:Nat->Prop)(w:Yw)(d t k:Nat)(m1:Mc):Ending->Yw->Prop:=λr w'=>Kp (iM lo) w w'/\ ∃s' ad n cap,r= Yq (Q ad n cap)/\kU E lo w' s'/\s'.t=t/\s'.d=d/\E.F=s'.used+m1.aC/\(t=0->s'.Up m1/\n=k/\aw w' (Q ad n cap) 1 k (ay (m1.stack.drop (m1.stack.length-k))))
def Df(f:dH)(n:Nat)(args:List Int)(m:Mc):Mc:={m with stack:=args++List.replicate ((f.funcs.getD n du).aZ-args.length) 0,aD:=[(0,(f.funcs.getD n du).aZ,0)]}
def TB{a:Rs}{gv vv:Yx}{I:Nat->jr}(h:∀i,i<7->I i=wP E 0 a u gv z vv u u i)(b:∀i,¬i<7->I i=.none):I=kN E a u gv z vv:=by
 funext i
 unfold kN;grind
def kU.run(h:kU E lo w s):w.heap[E.rb]?=M (Yl #[ptr E.xb,V O E.F,V O s.used,V O s.t,V O s.d] 242)/\(∃a gv,w.heap[E.xb]?=M (Yl #[ptr E.mb,ptr E.sb,a,gv] 196))/\
  (∀W (n:Nat),Kp no w W->kU E lo (W.setCell ⟨E.rb,3,H⟩ (V O n)) {s with t:=n}/\Kp (iM lo) w (W.setCell ⟨E.rb,3,H⟩ (V O n)))/\
  (∀W (n:Nat),Kp no w W->kU E lo (W.setCell ⟨E.rb,4,H⟩ (V O n)) {s with d:=n}/\Kp (iM lo) w (W.setCell ⟨E.rb,4,H⟩ (V O n))):=by
 obtain⟨g,c,a,gv,e,f,h⟩:=h;refine⟨h.dY 0,⟨a,gv,h.dY 1⟩,λW n b=>?_,λW n b=>?_⟩;all_goals
  obtain⟨j,g2⟩:=(h.quiet b).fld 0 U _ (V O n);refine⟨⟨g.low c (b.any.trans g2),c,a,gv,e,f,?_⟩,b.any.trans g2⟩;rw[<-TB (I:=yT (kN E s a gv e f) 0 _) ?_ ?_]
  .exact j
  .exact Ui ⟨U,U,U,U,U,U,U⟩
  .intro i hi;rw[Cf Y];simp_all[kN,Va]
end
end
section
open Go.RowKit
def jU(w:Yw)(v:Yx)(args:List Int):Prop:=(v= Q H 0 0/\args=[])\/ ∃a cap,v= Q (M a) args.length cap/\args.length<=cap/\ ∀k x,(ay args)[k]?=M x->w.cell? (a.add k)=M x
def Ic(v:Yx)(args:List Int):Option Nat:=if args=[]then H else v.ownBlock
section
variable{w w':World}{v:Value}{args:List Int}{S:Nat->Prop}
def TC(h:Ic v args=M b):v.ownBlock=M b:=by
 grind[Ic]
theorem jU.of(h:aw w v 1 args.length (ay args)):jU w v args:=by
 obtain⟨e,⟨b,c⟩|⟨a,o,d,b,c,f⟩⟩:=h
 .exact Yo ⟨b,WM.1 c⟩
 .exact Yp ⟨⟨a,o,H⟩,d,b,c,λk x g=>by grind[Addr.add_lit]⟩
theorem jU.aJ(h:jU w v args):∃a b,v= Q a args.length b/\args.length<=b:=by
 rcases h with⟨rfl,rfl⟩|⟨a,b,c,d,-⟩
 .simp
 grind
def jU.row(h:jU w v args)(b:args≠[]):aw w v 1 args.length (ay args):=by
 rcases h with⟨rfl,rfl⟩|⟨⟨a,o,d⟩,c,e,f,g⟩
 .grind
 .obtain⟨x,l,rfl⟩:=Xw b;have i:=g 0 _ U;have j:d=none:=by
   rw[Addr.add_zero']at i;cases d with
   |none=>rfl
   |some q=>
    grind[World.cell?]
  subst j;exact⟨by simp[ay],Yp ⟨a,o,c,e,f,λk x m=>by grind[Addr.add_lit]⟩⟩
theorem jU.get(h:jU w v args){x:Yx}(c:(ay args)[k]?=M x):∃a o b,v= Q (M ⟨a,o,H⟩) args.length b/\args.length<=b/\w.cell? ⟨a,o+k,H⟩=M x:=
 (h.row (λe=>by grind[ay])).get c
theorem jU.kp(h:jU w v args)(k:Kp S w w')(e:∀b,Ic v args=M b-> ¬S b):jU w' v args:=by
 by_cases c:args=[]
 .subst c;rcases h with h|⟨a,d,f,g,-⟩
  .exact Yo h
  .exact Yp ⟨a,d,f,g,λk x i=>by grind[ay]⟩
 .exact .of ((h.row c).kp k (λb a=>e b (by simp_all[Ic])))
end
section
variable{P:Program}(w:World)
def vz{j:Array Oper}{rest:List Oper}{o:Oper}{a:Act}{b:Exit->Act->Yw->Prop}(m:o.guard=H)(s x:Operand)(t:TypeId)
  (L:o.op=.call {callee:=.builtin .append,args:=#[s,x],argTypes:=#[t,t]})
  (c:Nat)(e:TypeId)(i:TypeInfo)(z:Yx)(g:Nat)(F:P.underlying t=M (.slice e))(hi:P.info? e=M i)(N:i.zero=M z)
  (p:i.size=1)(q:i.bytes=g)(r:z.cells.size=1)
  (v:Yx)(n:Nat)(k:List Yx)(R:a.eval s=v)(l:w.ownsRow c e 1 v n k)
  (u:Yx)(args:List Int)(S:a.eval x=u)(y:jU w u args)
  (A:n+args.length<=maxLen)(B:(n+args.length)*g<=140737488355328)(C:c<=w.heap.size)
  (h:∀d f,f.ownsRow c e 1 d (n+args.length) (k++ay args)->w.grownBy f v.ownBlock->(d.ownBlock=v.ownBlock\/d.ownBlock=M w.heap.size)->wpList P j b rest (a.put o.dst d) f):wpList P j b (o::rest) a w:=by
 refine wpList_plain m λK T=>?_
 obtain⟨d,f,G,I,J,W⟩:∃d f,(Builtin.append_ #[t,t] o.type #[v,u]).run P w=.ok d f/\f.ownsRow c e 1 d (n+args.length) (k++ay args)/\w.grownBy f v.ownBlock/\(d.ownBlock=v.ownBlock\/d.ownBlock=M w.heap.size):=by
  rcases y with⟨rfl,rfl⟩|⟨K,D,rfl,X,E⟩
  .exact⟨v,w,run_append_owned_none (P:=P) w c t o.type e i 1 F hi v n k l,by grind[ay],fY _ _,Yo U⟩
  .obtain⟨d,f,G,I,J,-,h5⟩:=run_append_own_at (P:=P) w c t o.type e i z 1 g F hi N p q r Vb v n k l K args.length D (ay args) (by simp[ay]) E (dX _) A B C;grind
 have:=T _ _ (h d f I J W);unfold Oper.wp execOp;simp only[L,resolve,invoke,builtin,Sem.run_bind,Sem.run_pure,Result.andThen_ok,WW,WA,Xb,R,S,G];exact this
end
end
section
open Go.RowKit
open Rf (ptr bh)
section
variable{E:ew}{lo:Nat->Prop}{w w':World}{fb:Nat}{s:Rs}{m:Mc}
def Rs.Up.same(h:s.Up m):Rs.Up {s with d:=d} m:=⟨h.mem,h.gl,h.bG,h.k8,h.Bw⟩
def Mx(h:kU E lo w s)(b:s.d=16)(n:Nat)(c:Yx):df 122 #[ptr E.rb,V O n,c] w (Q H 0 0) λw'=>kU E lo w' {s with t:=6}/\Kp (iM lo) w w':=by
 obtain⟨a,-,d,-⟩:=h.run;rw[b]at a;obtain⟨f,g⟩:=ae a;have e:=Z (d w 6 iR);go_enter func122,ntmps122;go_wp2;go_ret;exact⟨U,e⟩
def JK{g n:Nat}{t:Nat}{o:Int}(hP:oK E g)(h:kU E lo w s)(hh:s.Up m)(k6:s.t=0)(hd:s.d=d)(H7:d<16)(hF:E.F=s.used+m.aC)(y0:m.aC<=1000000)(k7:jU w u I)(H8:∀b,Ic u I=M b->lo b)(hn:n<E.f.funcs.length)(y1:E.f.funcs.length<=1000000)(H9:I.length<=(E.f.funcs.getD n du).aZ)(K0:(E.f.funcs.getD n du).aZ<=1000)(hk:k=(E.f.funcs.getD n du).typ.2.length)(y2:k<=1)
  (k8:go E.f E.B g (d+1) H (E.B.getD n []) 0 (Df E.f n I m)=M (t,o,K))(k9:t=0->k<=fG K):
  Yy prog 122 #[ptr E.rb,V O n,u] w (abN E lo w d t k K):=by
 obtain⟨F,⟨mv,gv,R⟩,-,w0⟩:=h.run;rw[hd]at F;obtain⟨hc,hf⟩:=ae F;obtain⟨H5,H6⟩:=w0 w (d+1) iR;have h4:(w.setCell ⟨E.rb,4,H⟩ (V O (d+1:Nat))).heap[E.rb]?=_:=heap_setCell F _;have K1:E.xb≠E.rb:=λe=>by
  rw[e,F]at R;have:=Vy (λo=>match o with |some (Obj.cells a _ _)=>a.size|_=>0) R;simp at this
 have h5:(w.setCell ⟨E.rb,4,H⟩ (V O (d+1:Nat))).heap[E.xb]?=_:=aB K1 _ R;have w1:=h.mW;have S:jU (w.setCell ⟨E.rb,4,H⟩ (V O (d+1:Nat))) u I:=k7.kp H6 (λb F a=>a (H8 b F));obtain⟨f,h6⟩:=bL (w.setCell ⟨E.rb,4,H⟩ (V O ((d:Int)+1)));have hW:w.setCell ⟨E.rb,4,H⟩ (V O ((d+1:Nat):Int))=f:=h6.symm;rw[hW]at H5 H6 h4 h5 S;obtain⟨y3,tv,fv,y4,pg,w2,y5,y6,rfl,y7,w3⟩:=H5.mod;obtain⟨a,pv,rv,lv,bv,ll,rfl,y8,c0,c1,c2,c3,w4,y9,w5,z0,w6,z1,w7,h7⟩:=w3 n hn;obtain⟨r,v,rfl,w8⟩:=aw.aJ w6;obtain⟨A,B,rfl,K2⟩:=aw.aJ w5;obtain⟨C,D,rfl,K3⟩:=aw.aJ w4;obtain⟨l,T,p,rfl⟩:∃l T p,bv= Q l T p:=by
  cases h7 with
  |mk row own hc F c=>obtain⟨x,y,z,-⟩:=row.aJ;exact⟨_,_,_,z⟩
 obtain⟨P,w9⟩:=bL ((E.f.funcs.getD n du).typ.1.length);rw[<-w9]at K3 c0;rw[w7]at w8 c2;rw[<-hk]at K2 c1;obtain⟨N,hN⟩:=bL ((E.f.funcs.getD n du).aZ);rw[<-hN]at H9 K0 w8 c2;obtain⟨K4,z2⟩:=ae w2;obtain⟨K5,z3⟩:=ae h4;obtain⟨z4,z5⟩:=ae h5;dsimp only[Array.setIfInBounds]at K5;have W9:=H5.guard ((Kp.refl no f).alloc (Yl #[Q C P D,Q A k B,Q r N v,Q l T p] 193)) (λb=>b=f.heap.size) (λb F=>by subst F;simp);have K6:=W9.enter (fb:=f.heap.size+1) ((Kp.refl no _).alloc (Yl #[Q H 0 0,Q H 0 0] 281)) Vc (by
  have:=ai (f.alloc (Yl #[Q C P D,Q A k B,Q r N v,Q l T p] 193)) (Yl #[Q H 0 0,Q H 0 0] 281);simpa using this)
 obtain⟨z6,z7,i,-,-,-,-,-,-,-,h8,-⟩:=K6.frame;have q:((f.alloc (Yl #[Q C P D,Q A k B,Q r N v,Q l T p] 193)).alloc (Yl #[Q H 0 0,Q H 0 0] 281)).heap[f.heap.size+1]?=M (Yl #[Q H 0 0,Q H 0 0] 281):=by
  have:=ai (f.alloc (Yl #[Q C P D,Q A k B,Q r N v,Q l T p] 193)) (Yl #[Q H 0 0,Q H 0 0] 281);simpa using this
 rw[q]at i;cases i;obtain⟨i0,e0,e4,e5,e6⟩:=info_parts iq;have z8:IntKind.i64.wrap ((n:Int))=(n:Int):=by rw[IntKind.wrap_i64];omega
 have e7:=Z (ah (o:= Yl #[Q H 0 0,Q H 0 0] 281) (ai f (Yl #[Q C P D,Q A k B,Q r N v,Q l T p] 193)));have z9:((d:Int)==16)=false:=Vd
 have p0:(d:Int)<16:=Y
 clear h F R w0 H5 h4 h5 k7 W9 w2 w3 w4 w5 w6 hW H7 w9;change Hid _ at h7 k8 k9 h6 hh k6 hd hF hk hN w7;replace S:=Z S;change Hid _ at K6 h8 q H6;go_enter func122,ntmps122;go_upto_region 5 with fail
 rw[<-h6.out];go_wp2_with(at_builtin;go_loud (refine vz _ U _ _ 53 U 0 38 i0 (V Yr 0) 8 underlying53 e0 e4 e5 e6 U _ 0 [] U ic _ I U (S.kp (((Kp.refl no f).alloc _).alloc _) bW) ?c3 ?c4 ?c5 ?_));case c3=>unfold maxLen;omega
 case c4=>omega
 intro v1 p1 h9 X e8;obtain⟨p2,p3,rfl⟩:=aA h9;have K7:=X.cell_far ⟨f.heap.size+1,0,H⟩ Vc (by simp[Value.ownBlock]);rw[(ae q).1 0]at K7;have p4:=(X.frozen_far ⟨f.heap.size+1,0,H⟩ Vc (by simp[Value.ownBlock])).trans ((ae q).2 0);obtain⟨e9,s0⟩:=h8 _ p1 _ I iR h9 X (by simpa using e8);have p5:=Z e9;have p6:=Z s0;clear h9 X e8 e9 s0 h8 q K6;go_wp2;go_loopg [] (N-I.length) (λc wr=> ∃j:Nat,I.length+j+c=N/\ee E (λb=>lo b\/b=f.heap.size) wr (f.heap.size+1) {s with d:=d+1,bg:=I++List.replicate j 0,aW:=[]}/\Hid (Kp (iM (λb=>lo b\/b=f.heap.size)) ((f.alloc (Yl #[Q C P D,Q A k B,Q r N v,Q l T p] 193)).alloc (Yl #[Q H 0 0,Q H 0 0] 281)) wr));case atStart=>exact⟨0,Y,by rw[List.replicate_zero,VF];exact p5,p6⟩
 case round=>
  obtain⟨j,hj,hq,h0⟩:=hrel;have K8:=h0.az e7 (λh=>h (Yp U));obtain⟨p7,p8⟩:=ae K8;obtain⟨p9,q0,i,⟨q1,q2,rfl,h1⟩,⟨q3,q4,rfl,s1⟩,y,-,G,s2,-,J,-⟩:=hq.frame;obtain⟨h2,q5⟩:=ae i;dsimp only at h2 h1 G J y i;have L:(I++List.replicate j (0:Int)).length=I.length+j:=Vc
  rw[L]at h2 h1 G y J i;have K9:=au i;have HQ:=Z hq;by_cases s3:I.length+j<N
  .have k5:((I.length+j:Nat):Int)<(N:Int):=Y
   have h3:=Z G;have k0:=Z J;have q:=Z i;obtain⟨c,hM⟩:=bL (I.length+j);rw[<-hM]at h2 h1 k5 y h3 k0 q;have s7:c<=1000:=Y
   clear hq i G J s1 s2;change Hid _ at hM L;have k1:I.length+(j+1)+(gk-1)=N/\gk≠0:=Y
   clear s3 hj;change Hid _ at k1;go_wp2_with fail;go_quiet(fail);have z:=Z (show(wr.drewN nq).heap[f.heap.size+1]?=_ from q);have k3:=Z (((Kp.refl no wr).drewN nq).own h3 bW);have KD:=Z ((Kp.refl no wr).drewN nq);have s8:f.heap.size+1<(wr.drewN nq).heap.size:=K9;obtain⟨s9,x0⟩:=ae z;generalize wr.drewN nq=wd at *;go_wp2_with(at_builtin;go_loud (refine bj _ U _ _ 53 U 0 38 i0 (V Yr 0) 1 8 underlying53 e0 e4 e5 e6 U Vb _ c _ U (((Kp.refl no wd).alloc _).own k3 bW) _ 1 [V Yr 0] U (aw.new _ _ _) (eP U) ?d3 ?d4 ?d5 ?_));case d3=>unfold maxLen;omega
   case d4=>omega
   case d5=>omega
   intro v1 x1 k2 W k4;obtain⟨x2,x3,rfl⟩:=aA k2;have s4:=(W.cell_far ⟨f.heap.size+1,0,H⟩ Vd y);have x4:=(W.frozen_far ⟨f.heap.size+1,0,H⟩ Vd y).trans ((ae (ah z)).2 0);rw[(ae (ah z)).1 0]at s4;obtain⟨s5,s6⟩:=k0 _ x1 _ (I++List.replicate (j+1) 0) (KD.alloc _) (by
    have e1:(I++List.replicate (j+1) (0:Int)).length=c+1:=by rw[hM.out];simp;omega
    have e2:ay (I++List.replicate (j+1) (0:Int))=ay (I++List.replicate j 0)++[V Yr 0]:=by rw[XT];simp[ay]
    rw[e1,e2];exact k2) W (by simpa using k4)
   have x5:=Z (h0.trans s6);clear k2 W k4 s6 k0 z k3 h3;change Hid _ at s5;go_wp2;go_roundg (gk-1);case rel=>exact⟨j+1,k1.1,s5,x5⟩
   case measure=>have:=k1.2;omega
  .have s4:I.length+j=N:=Y
   have W0: ¬(((I.length+j:Nat):Int)<(N:Int)):=Y
   have s5:j=N-I.length:=Y
   have s6:(Df E.f n I m).stack=I++List.replicate j 0:=by rw[s5,hN.out];rfl
   have s7:Rs.Is {s with d:=d+1,bg:=I++List.replicate j 0,aW:=[]} (Df E.f n I m):=⟨by rw[s6,VF],by show[(0,(E.f.funcs.getD n du).aZ,0)]=_;rw[<-hN.out,L,s4],hh.mem,hh.gl,hh.bG,hh.k8,hh.Bw,by rw[L];omega⟩;have s8:bh wr E.ro (Q l T p) (E.B.getD n []):=(h7.kp (((Kp.refl no f).alloc _).alloc _) bW (λ_ h=>h)).kp h0 (λb F hn=>hn (Yo (w1 b F))) (λ_ h=>h);have s9:=Z (λW (b:Kp no wr W)=>hP (d:=d+1) (HQ.quiet b) s7 k6 U Y hF (by show 0+m.aC<=_;omega) (s8.kp b bW (λ_ h=>h)) k8);obtain⟨c,hM⟩:=bL (I.length+j);rw[<-hM]at h2 W0;clear hq i G J L s1 s2 hj s3 s4 s5 s6 s7 s8 hM h1 y;go_wp2_with fail;go_quiet(fail);go_wp2_with fail;refine(s9 _ ((Kp.refl no wr).drewN nq)).bw ?_;rintro W1⟨s0,b,e9,k0,x0,x1,x2⟩;have k1:=h0.trans (Kp.trans ((Kp.refl _ wr).drewN nq) s0);have x3:=k1.az e7 (λh=>h (Yp U));obtain⟨k2,-,-,x4⟩:=e9.run;rw[k0,x0]at k2;obtain⟨q6,q7⟩:=ae k2;obtain⟨W2,W3⟩:=x4 W1 d iR;have q8:IntKind.i64.wrap (((d+1:Nat):Int)-1)=(d:Int):=by rw[IntKind.wrap_i64];omega
   have x5:=(((H6.trans (((Kp.refl _ f).alloc _).alloc _)).trans (fP k1))).trans (fP W3);have x6:=(W2.AM).free w1;have x7:=Z x6;have x8:=Z x5;have x9:=Z k0;have H0:=Z x1;by_cases k3:t=0
   .obtain⟨W,q9⟩:=x2 k3;have r0:k<=b.aW.length:=by rw[<-W.Mr];exact k9 k3
    obtain⟨r1,r2,H1,-,⟨h3,z,rfl,H2⟩,-,-,-,H3,-⟩:=W2.frame;obtain⟨W4,r3⟩:=ae H1;obtain⟨r4,r5⟩:=ae (W3.az x3 (λh=>h (Yp U)));have r6:b.aW.length<=1000000:=Y
    obtain⟨n,W5⟩:=bL (b.aW.length-k);have W6:n<=b.aW.length:=Y
    have k4:=jQ H3 W6;have r7:IntKind.i64.wrap ((b.aW.length:Int) - (k:Int))=(n:Int):=by rw[IntKind.wrap_i64];omega
    have k5:aw (W1.setCell ⟨E.rb,4,H⟩ (V O d)) (Q (if z=n then h3 else h3.map (·.add n)) (b.aW.length-n) (z-n)) 1 k (ay (K.stack.drop (K.stack.length-k))):=by
     have e1:K.stack.drop (K.stack.length-k)=b.aW.drop n:=by
      rw[W.stack,Vn,show b.bg.length+b.aW.length-k=b.bg.length+n by omega,Wd]
     rw[e1];have e2:b.aW.length-n=k:=Y
     rw[e2]at k4⊢;have e3:ay (b.aW.drop n)=(ay b.aW).drop n:=by simp[ay,WO]
     rw[e3];exact k4
    have H4:b.aW.length-n=k:=Y
    have W7:(t:Int)=0:=Y
    have K4:n<=z:=by have:b.aW.length<=z:=H2;omega
    dsimp only at W4;generalize b.aW.length=M6 at *;clear e9 W2 s0 W3 k1 k2 x4 x6 x5 k0 x0 x1 x2 x3 s9 H1 H3 k4 W5 H2;change Hid _ at W H4;replace k5:=Z k5;go_wp2_with fail;go_quiet(fail);generalize(if z=n then h3 else Option.map (λx=>x.add n) h3)=W8 at *;go_wp2;go_ret;have x:=(Kp.refl no (W1.setCell ⟨E.rb,4,H⟩ (V O d))).drewN nq;exact⟨x8.then x,{b with d:=d},W8,M6-n,z-n,U,x7.quiet x,x9,U,H0,λ_=>⟨W.has.same,H4,k5.kp x bW⟩⟩
   .have W7:((t:Int)==0)=false:=Vd
    go_wp2;go_ret;exact⟨x8,{b with d:=d},H,0,0,U,x7,x9,U,H0,λe=>absurd e k3⟩
end
end
section
open Go.RowKit
def mO(p:aq X u D)(q:aq X z l)(v:D.length<=1000000000):
  df 88 #[u,z] X (Yt (decide (D=l))) λa=>Kp no X a:=by
 obtain⟨w,A,rfl,B⟩:=p.aJ;obtain⟨C,E,rfl,F⟩:=q.aJ;by_cases m:D.length=l.length
 .have n:(((D.length:Nat):Int) !=((l.length:Nat):Int))=false:=Vd
  go_enter func88,ntmps88;go_wp2;go_loopw [5] (λi wr=> ∃(k:Nat),k<=D.length/\i= V O k/\(∀j,j<k->D.getD j 0=l.getD j 0)/\Kp no X wr) (λi _=>D.length - (intOf i).toNat);case atStart=>exact⟨0,Y,U,λj r=>Y,iR⟩
  case round=>
   obtain⟨k,I,rfl,d,a⟩:=hrel;by_cases c:k<D.length
   .obtain⟨J,K,c1,e,_,f⟩:=aq.get p c;obtain⟨L,N,c2,g,_,h⟩:=aq.get q (by rw[<-m];exact c);simp only[Vz]at e g;obtain⟨rfl,-,rfl⟩:=e;obtain⟨rfl,-,rfl⟩:=g;replace f:=a.aY f;replace h:=a.aY h;have G:k<l.length:=by rw[<-m];exact c
    have i:=Rf.mY (D.getD k 0) (l.getD k 0);generalize s:D.getD k 0=x at *;generalize t:l.getD k 0=y at *;by_cases b:x=y
    .rw[show(!(x==y))=Yj by simpa using b]at i;go_wp2;go_quiet(fail);go_wp2;go_roundw;case rel=>
      refine⟨k+1,Y,by go_num,λj r=>?_,a.drewN _⟩;rcases VE j k with o|o
      .exact d j o
      .obtain rfl :j=k:=Y
       rw[s,t,b]
     case measure=>simp[intOf];omega
    .rw[show(!(x==y))=Yk by simpa using b]at i;go_wp2;go_quiet(fail);go_wp2;go_ret;refine⟨lG ?_,a.drewN _⟩;symm;rw[V7];intro o;exact b (by rw[<-s,<-t,o])
   .go_wp2;go_ret;refine⟨lG ?_,a⟩;symm;rw[Xs,Rf.vH m];intro j r;exact d j Y
 .have n:(((D.length:Nat):Int) !=((l.length:Nat):Int))=true:=Vd
  go_enter func88,ntmps88;go_wp2;go_ret;refine⟨lG ?_,iR⟩;symm;rw[V7];rintro rfl;exact m U
abbrev NG(l:List UInt8):List UInt8:=l++[77,0]
def NH(h:Rf.eJ X u l)(N:l.length<=2000000):
  Yy prog 85 #[u] X λr a=>(r= Yq (Q (M ⟨X.heap.size,0,H⟩) (l.length+2) (l.length+2))/\ ∃b:Array Yx,a.heap[X.heap.size]?=M (Yl b 5)/\b.toList=Rf.cw (NG l))/\Kp no X a:=by
 obtain⟨B,m,n,p,q⟩:=info_parts po;obtain⟨C,D,E,F⟩:=h.aJ;subst E;have r:0<(Rf.cw l).length-> ∃a,C=M a/\ ∀W,Kp no X W-> ∀j x,(Rf.cw l)[j]?=M x->W.cell? (a.add j)=M x:=by
  intro k;obtain⟨-,⟨he,d⟩|⟨a,o,c,he,-,hc⟩⟩:=h.2 (λe=>by rw[e]at k;exact absurd k (Wo _))
  .simp at k;omega
  .exact uD
 have c:(Rf.cw l).length=l.length:=Vc
 have G:wrap64 ((l.length:Int)+2)=((l.length+2:Nat):Int):=by unfold wrap64;omega
 go_enter func85,ntmps85;go_wp2_with(refine wpList_make_full _ U _ _ 25 U X.heap.size 5 B (V Ys 0) 1 underlying25 m n p _ _ _ _ (l.length+2) U U U U ?c1 ?c2 cQ ?_);case c1=>rw[q];omega
 case c2=>unfold maxLen;omega
 intro P o j;have s:=Kp.nZ j;obtain⟨t,⟨he,-⟩|⟨g,R,b,he,I,A,-,v,d,i⟩⟩:=o
 .cases he
 cases he;rw[Xh,Wu (by have:b.toList.length=(l.length+2)*1:=(by simpa using d);omega)]at i;clear j t I v;change Hid _ at A s d i;go_wp2_with(refine wpList_copy_splice U _ _ _ _ U 5 underlying25 IY _ _ _ _ _ _ U U X.heap.size 0 b.toList 5 ?d1 (Rf.cw l) ?d2 (λk=>⟨U,?d3⟩) ?d4 (bV _) X.heap.size X s.Cn cQ ?_);case d1=>rw[WX];exact A
 case d2=>have:=c;simp
 case d3=>obtain⟨a,e,f⟩:=r k;exact⟨a,e,f _ s⟩
 case d4=>have:=c;have:=d.out;simp;omega
 intro J w x;have y:splice b.toList 0 (Rf.cw l)=Rf.cw (l++[0,0]):=by
  unfold splice;rw[i.out,toList_madeCells_one,List.take_zero,V1,Vv,c];rw[X2,V8];simp[Rf.cw,List.replicate_succ]
 have k:J.heap[X.heap.size]?=M (Yl (Rf.cw (l++[0,0])).toArray 5):=by
  have:=w.out;rw[y]at this;exact this
 obtain⟨K,L⟩:=ae k;have z:=Z (Kp.Cm x);go_wp2_with fail;go_ret;refine⟨⟨U,_,heap_setCell k _,?_⟩,z.cq cQ _ _⟩;rw[Xx];simp[List.set_append]
def D6(F:l.length<=2000000){a:Array Yx}(v:X.heap[b]?=M (Yl a 5))(g:a.toList=Rf.cw (NG l))(t:Rf.eJ X u l)(h:Rf.B7 u l≠M b):
  df 86 #[Q (M ⟨b,0,H⟩) (l.length+2) (l.length+2),u] X (Yt Yk) λc=>Kp (one b) X c:=by
 obtain⟨G,y,rfl,z⟩:=t.aJ;have f:∀q,a[q]?=(Rf.cw (NG l))[q]? :=λq=>by rw[<-g,WU]
 have e1:a[l.length]?=M (V Ys 77):=by rw[f];simp
 have e2:a[l.length+1]?=M (V Ys 0):=by rw[f];simp
 obtain⟨w,-⟩:=ae v;have A:wrap64 ((l.length:Int)+1)=((l.length+1:Nat):Int):=by unfold wrap64;omega
 have j:a.size=l.length+2:=by
  have:=Vy List.length g;simpa using this
 have B:X.cell? ⟨b,l.length,H⟩=M (V Ys 77):=by rw[w];exact e1
 have I:X.cell? ⟨b,l.length+1,H⟩=M (V Ys 0):=by rw[w];exact e2
 clear g w e1 e2;change Hid _ at j;replace h:=Z h;replace t:=Z t;change Hid _ at v f;go_enter func86,ntmps86;go_wp2;go_loopw [6,7] (λo i wr=> ∃(k:Nat) (c:Array Yx),k<=l.length/\o= Yt Yk/\i= V O k/\wr.heap[b]?=M (Yl c 5)/\c.size=l.length+2/\(∀q,k<=q->c[q]?=a[q]?)/\Kp (one b) X wr) (λ_ i _=>l.length - (intOf i).toNat);case atStart=>exact⟨0,a,Y,U,U,v,j,λ_ _=>rfl,iR⟩
 case round=>
  obtain⟨k,c,J,rfl,rfl,m,x,n,i⟩:=hrel;by_cases d:k<l.length
  .obtain⟨C,K,c1,o,_,p⟩:=Rf.eJ.get t d;simp only[Vz]at o;obtain⟨rfl,-,rfl⟩:=o;replace p:=i.cell p (λe=>h (by unfold Rf.B7;rw[Va (λe=>by rw[e]at d;exact absurd d (Wo _)),show b=C from e.symm];rfl));have r:c[k]?=M (V Ys (l.getD k 0).toNat):=by
    rw[n k cQ,f.out];rw[VN,VC d,Vj d,Vl,Vj d];rfl
   obtain⟨e,s⟩:=ae m;have D:wr.cell? ⟨b,k,H⟩=M (V Ys (l.getD k 0).toNat):=by rw[e];exact r
   have E:=s k;clear r e s;go_wp2;go_quiet(fail);go_wp2;go_roundw;case rel=>
    refine⟨k+1,_,Y,Vc,by go_num,heap_setCell (by exact m) _,by have:=x;simp;omega,λq L=>?_,(i.drewN _).bK _ _⟩;rw[Xo Y];exact n q Y
   case measure=>simp[intOf];omega
  .go_wp2;go_ret;exact⟨U,i⟩
theorem Gn(w:Yw)(a:Array Yx)(t:TypeId):aw (w.alloc (Yl a t)) (Q (M ⟨w.heap.size,0,H⟩) 1 1) a.size 1 a.toList:=
 ⟨Vc,Yp ⟨_,0,1,U,cQ,λk u b=>Vh⟩⟩
def Kk(h:k<F.length):(List.replicate k u++F.drop k).set k u=List.replicate (k+1) u++F.drop (k+1):=by
 rw[VY h,WV _ _ Vc,V0,Wr,X4,XT,VD,List.singleton_append]
def Mk(w:Yw)(x:Yx)(v:Yx)(n:Nat):Prop:=(v= Q H 0 0/\n=0)\/ ∃g cap yX t,v= Q (M ⟨g,0,H⟩) n cap/\w.heap[g]?=M (Yl yX t)/\n<=cap/\ ∀j,j<n->yX[j]?=M x
def UB{a:Array Yx}(c:b=X.heap.size):∀j u,a.toList[j]?=M u->(X.alloc (Yl a T)).cell? ⟨b,0+j,H⟩=M u:=λj u d=>by
 simp_all
section
variable{S:Nat->Prop}{w w':World}{x v:Value}{n:Nat}
theorem Mk.aJ(h:Mk w x v n):∃b a,v= Q b n a:=by
 rcases h with⟨rfl,rfl⟩|⟨g,a,c,t,rfl,-⟩<;>simp
def Mk.row(h:Mk w x v n):aw w v 1 n (List.replicate n x):=by
 rcases h with⟨rfl,rfl⟩|⟨g,a,d,t,rfl,e,f,i⟩
 .grind[aw.nil]
 .refine⟨Vc,Yp ⟨g,0,a,U,f,λk u j=>?_⟩⟩;obtain⟨b,c⟩:=VA.1 j;rw[V0]at b;rw[List.getElem_replicate]at c;rw[Vv,(ae e).1,i k b,c]
theorem Mk.kp(h:Mk w x v n)(k:Kp S w w')(c:∀b,v.ownBlock=M b-> ¬S b):Mk w' x v n:=by
 rcases h with h|⟨g,a,b,t,rfl,d,e⟩
 .exact Yo h
 .exact Yp ⟨g,a,b,t,U,k.az d (c g U),e⟩
theorem Mk.lt(h:Mk w x v n)(a:v.ownBlock=M b):b<w.heap.size:=by
 rcases h with⟨rfl,rfl⟩|⟨g,c,d,t,rfl,e,f⟩
 .cases a
 .cases a;grind
theorem Mk.own(h:w.ownsRow k T 1 v n (List.replicate n x)):Mk w x v n:=by
 obtain⟨-,⟨rfl,rfl⟩|⟨g,b,a,rfl,-,c,d,-,-,e⟩⟩:=h
 .exact Yo ⟨U,U⟩
 .refine Yp ⟨g,b,a,T,U,c,d,λj f=>?_⟩;have i:(a.toList.take (n*1))[j]?=(List.replicate n x)[j]? :=by rw[e]
  grind
end
structure Lg(w w':Yw)(base:Nat)(e:TypeId)(x v:Yx)(n:Nat)(v':Yx)(m:Nat):Prop where
 own:w'.ownsRow base e 1 v n (List.replicate n x)
 new:Mk w' x v' (n+m)
 az:v'.ownBlock=v.ownBlock\/ ∃b,v'.ownBlock=M b/\w.heap.size<=b
 old:∀u k,Mk w x u k->Mk w' x u k
 kp:Kp (λb=>v.ownBlock=M b) w w'
section
variable{P:Program}(w:World)
def yY(t y:TypeId)(d:Nat)(e:TypeId)(i:TypeInfo)(z:Yx)(p:Nat)(I:P.underlying t=M (.slice e))(hi:P.info? e=M i)(L:i.zero=M z)
  (A:i.size=1)(B:i.bytes=p)(N:z.cells.size=1)
  (v:Yx)(n:Nat)(x:Yx)(f:w.ownsRow d e 1 v n (List.replicate n x))
  (J:Nat)(m c:Nat)(h5:∀j u,(List.replicate m x)[j]?=M u->w.cell? ⟨J,0+j,H⟩=M u)(k0:x.oneCell'=Yk)(hm:0<m)
  (R:n+m<=maxLen)(r:(n+m)*p<=140737488355328)(S:d<=w.heap.size):
  ∃C D,(Builtin.append_ #[t,t] y #[v,Q (M ⟨J,0,H⟩) m c]).run P w=.ok C D/\Lg w D d e x v n C m:=by
 have K:∀j u,(List.replicate m x)[j]?=M u->w.cell? ((⟨J,0,H⟩:Addr).add j)=M u:=λj u hj=>by grind[Addr.add_lit]
 have hl:(List.replicate m x).length=m*1:=Vc
 have E:∀u∈List.replicate m x,u.oneCell'=true:=λu a=>Ve
 obtain⟨C,D,T,W,-,-⟩:=run_append_own w d t y e i z 1 p I hi L A B N Vb v n _ f _ m c _ hl K E R r S;rw[List.replicate_append_replicate]at W;have X:n+m<=9223372036854775807:=by grind[maxLen]
 subst B;have s:(List.replicate m x).length=m*i.size:=Ve
 refine⟨C,D,T,?_⟩;have F:∀{a:Yx} {o:Obj},(Builtin.append_ #[t,t] y #[v,Q (M ⟨J,0,H⟩) m c]).run P w=.ok a (w.drew.alloc o)->a.ownBlock=M w.heap.size->Lg w D d e x v n C m:=by
  intro a o b g;rw[T]at b;cases b;have k:Kp no w (w.drew.alloc o):=((Kp.refl no w).drew).alloc _;exact⟨k.own f bW,Mk.own W,Yp ⟨_,g,cQ⟩,λu q h=>h.kp k bW,k.any⟩
 rcases f.2 with⟨rfl,rfl⟩|⟨g,l,a,rfl,h0,hg,h1,h2,h6,h7⟩
 .rw[Vv]at r X;exact F (run_append_nil w t y e i z I hi L _ m c _ s K hm Y Y) U
 .by_cases h3:n+m<=l
  .have h4:n*i.size+(List.replicate m x).length<=a.size:=Ve
   have G:=run_append_room w t y e i I hi g n l a hg _ m c _ s K E h3 h4;rw[T]at G;cases G;rw[A,Xh,V0]at *;have h8:∀j,(a.toList.take n++List.replicate m x++a.toList.drop (n+m)).toArray[j]?=if n<=j/\j<n+m then M x else a[j]? :=λj=>by
    rw[Wk,VD,List.getElem?_append,VV,Array.length_toList,Nat.min_eq_left Y];grind
   have hh:=setRow_heap w g a (a.toList.take n++List.replicate m x++a.toList.drop (n+m)).toArray e _ hg;have o:Kp (λb=>(Value.slice (M ⟨g,0,H⟩) n l).ownBlock=M b) w (w.setRow g (a.toList.take n++List.replicate m x++a.toList.drop (n+m)).toArray):=(Kp.refl _ w).bS (row:=M g) ⟨U,U,U,Vc,λk _ o=>setRow_other w g k _ (λe=>o (by rw[e]))⟩ (λk o=> Yo o);generalize h9:(a.toList.take n++List.replicate m x++a.toList.drop (n+m)).toArray=b at *;generalize w.setRow g b=w1 at *;refine⟨⟨f.1,Yp ⟨g,l,b,U,h0,hh,h1,h2,?_,?_⟩⟩,Mk.own W,Yo U,λu q h=>?_,o⟩
   .grind
   .grind
   .rcases h with h|⟨u,k,cu,t',rfl,e1,e2,e3⟩
    .exact Yo h
    .by_cases q:u=g
     .subst q;rw[hg]at e1;cases e1;refine Yp ⟨u,k,b,_,U,hh,e2,λj hj=>?_⟩;grind
     .exact Yp ⟨u,k,cu,t',U,o.az e1 (λe=>q (Vr e).symm),e2,e3⟩
  .exact F (run_append_grow w t y e i z I hi L _ n l _ Ve (f.cells U) _ m c _ s K Y Y (growslice_fits Y r)) U
def jM{g:Array Oper}{rest:List Oper}{o:Oper}{a:Act}{b:Exit->Act->Yw->Prop}(l:o.guard=H)(s x:Operand)(t:TypeId)
  (G:o.op=.call {callee:=.builtin .append,args:=#[s,x],argTypes:=#[t,t]})
  (d:Nat)(e:TypeId)(i:TypeInfo)(z:Yx)(f:Nat)(I:P.underlying t=M (.slice e))(hi:P.info? e=M i)(J:i.zero=M z)
  (p:i.size=1)(q:i.bytes=f)(r:z.cells.size=1)
  (v:Yx)(n:Nat)(y:Yx)(K:a.eval s=v)(A:w.ownsRow d e 1 v n (List.replicate n y))
  (B m c:Nat)(L:a.eval x= Q (M ⟨B,0,H⟩) m c)(C:∀j u,(List.replicate m y)[j]?=M u->w.cell? ⟨B,0+j,H⟩=M u)(N:y.oneCell'=Yk)(R:0<m)
  (D:n+m<=maxLen)(E:(n+m)*f<=140737488355328)(F:d<=w.heap.size)
  (h:∀j k,Lg w k d e y v n j m->wpList P g b rest (a.put o.dst j) k):wpList P g b (o::rest) a w:=by
 refine wpList_plain l λ_ u=>?_
 obtain⟨j,k,S,T⟩:=yY w t o.type d e i z f I hi J p q r v n y A B m c C N R D E F;unfold Oper.wp execOp;simp only[G,resolve,invoke,builtin,Sem.run_bind,Sem.run_pure,Result.andThen_ok,WW,WA,Xb,K,L,S];exact u _ _ (h j k T)
end
def Mv(w:Yw)(v v':Yx):Prop:=v'.ownBlock=v.ownBlock\/ ∃b,v'.ownBlock=M b/\w.heap.size<=b
theorem Mv.old(h:Mv X u z)(a:z.ownBlock=M b)(d:b<X.heap.size):u.ownBlock=M b:=by
 rcases h with h|⟨c,e,f⟩<;>grind
theorem Mv.le{w':Yw}(h:Mv w' u z)(c:X.heap.size<=w'.heap.size):Mv X u z:=h.imp id λ⟨b,a,d⟩=>⟨b,a,Y⟩
structure IZ(wr:Yw)(tS e:TypeId)(x lv:Yx)(n:Nat)(W:Yw)(A:Array Yx)(L:List (Yx×Nat)):Prop where
 own:W.ownsRow 0 e 1 lv n (List.replicate n x)
 az:W.heap[wr.heap.size]?=M (Yl A tS)
 ls:∀p∈L,Mk W x p.1 p.2/\Mv wr lv p.1
 kp:Kp (λb=>lv.ownBlock=M b) wr W
 lt:∀b,lv.ownBlock=M b->b<wr.heap.size
section
variable{wr W w1:World}{tS e:TypeId}{x lv v:Value}{n m q:Nat}{A:Array Value}{L:List (Value×Nat)}{o:Obj}
def IZ.start(h:wr.ownsRow 0 e 1 lv n (List.replicate n x)):IZ wr tS e x lv n (wr.alloc (Yl A tS)) A []:=
 ⟨h.alloc _,ai _ _,λp a=>absurd a WK,oO,λ_ b=>bR h b⟩
def IZ.start'(_:X.ownsRow 0 tS 5 u k F)(h:wr.ownsRow 0 e 1 lv n (List.replicate n x)):IZ wr tS e x lv n (wr.alloc (Yl #[lv,Q H 0 0,Q H 0 0,Q H 0 0,x] tS)) #[lv,Q H 0 0,Q H 0 0,Q H 0 0,x] []:=IZ.start h
def IZ.long(h:IZ wr tS e x lv n W A L)(l:Lg (W.alloc o) w1 0 e x lv n v m):IZ wr tS e x lv n w1 A ((v,n+m)::L):=by
 have b:Kp no W (W.alloc o):=oO;have d:=h.kp.size;have c:=b.size;refine⟨l.own,l.kp.az (ah h.az) (λe=>cj (h.lt _ e)),λp a=>?_,(h.kp.then b).trans l.kp,h.lt⟩;rcases Wg.1 a with rfl |a
 .exact⟨l.new,Mv.le l.az Y⟩
 .exact⟨l.old _ _ ((h.ls p a).1.kp b bW),(h.ls p a).2⟩
def Lg.off(l:Lg (W.alloc o) w1 0 e x lv n v m)(a:wr.heap.size<(W.alloc o).heap.size)(c:∀b,lv.ownBlock=M b->b<wr.heap.size):v.ownBlock≠M wr.heap.size:=λe=>by
 rcases l.az with h|⟨b,d,f⟩<;>grind
def IZ.set(h:IZ wr tS e x lv n W A L)(f:∀p∈L,p.1.ownBlock≠M wr.heap.size):IZ wr tS e x lv n (W.setCell ⟨wr.heap.size,q,H⟩ v) (A.setIfInBounds q v) L:=by
 have c:Kp _ W (W.setCell ⟨wr.heap.size,q,H⟩ v):=(Kp.refl _ _).bK _ _;exact⟨c.own h.own (λb d e=>by have:=h.lt b d;grind[one]),heap_setCell h.az v,λp a=>⟨(h.ls p a).1.kp c (λb d e=>f p a (by grind[one])),(h.ls p a).2⟩,h.kp.cq cQ q v,h.lt⟩
end
structure D7(kd:IntKind)(tS:TypeId)(C:Int->Yx->Array Yx)(wb:Nat)(bv:Yx)(cnt:Nat)(cs:List Yx)(lv:Yx)(n:Nat)(w w':Yw)(n' m:Int)(wJ a b c:Yx):Prop where
 n0: -9223372036854775808<=n'/\n'<=9223372036854775807
 az:w'.heap[wb]?=M (Yl (C n' wJ) 90)
 row:w'.ownsRow 0 tS 5 wJ (cnt+1) (cs++[lv,a,b,c,V kd m])
 mv:Mv w bv wJ
 ml:Mk w' (V kd m) lv n
 ma:Mk w' (V kd m) a (n+1)
 mb:Mk w' (V kd m) b (n+2)
 mc:Mk w' (V kd m) c (n+3)
 al:Mv w lv a
 bl:Mv w lv b
 cl:Mv w lv c
 ap:∀q,wJ.ownBlock=M q->w.heap.size<=q->a.ownBlock≠M q/\b.ownBlock≠M q/\c.ownBlock≠M q
 kp:Kp (λq=>q=wb\/bv.ownBlock=M q\/lv.ownBlock=M q) w w'
def NI(kd:IntKind)(tS:TypeId)(C:Int->Yx->Array Yx)(wb:Nat)(bv:Yx)(cnt:Nat)(cs:List Yx)(lv:Yx)(n:Nat)(w:Yw)(r:Ending)(w':Yw):Prop:=
 r= Yq (Yu #[])/\ ∃n' m wJ a b c,D7 kd tS C wb bv cnt cs lv n w w' n' m wJ a b c
def D7.mk'{r:IntKind}{te:TypeId}{C:Int->Yx->Array Yx}{o:Nat}{wr w6 w8:Yw}{m:Int}{wJ a b c:Yx}{D:Array Yx}
  (B:IZ wr T te (V r m) z N w6 #[z,a,b,c,V r m] [(c,N+3),(b,N+2),(a,N+1)])(J:Kp (λq=>q=k\/z.ownBlock=M q) X w6)(s:Kp (λq=>u.ownBlock=M q) w6 w8)
  (K:w6.heap[k]?=M (Yl D 90))(L:w8.ownsRow 0 T 5 wJ (j+1) (F++[z,a,b,c,V r m]))(t:Mv w6 u wJ)(P: -9223372036854775808<=y/\y<=9223372036854775807)(R:z.ownBlock≠M k)(i:u.ownBlock≠M k)(S:∀q,z.ownBlock=M q->u.ownBlock≠M q)(v:∀q,u.ownBlock=M q->q<X.heap.size)(W:k<X.heap.size)(w:X.heap.size<=wr.heap.size)(hD:D.setIfInBounds o wJ=C y wJ):
  D7 r T C k u j F z N X (w8.setCell ⟨k,o,H⟩ wJ) y m wJ a b c:=by
 have h0:=B.kp.size;have x:Kp _ w8 (w8.setCell ⟨k,o,H⟩ wJ):=(Kp.refl _ _).bK _ _;have l:Kp (λq=>q=k\/u.ownBlock=M q) w6 _:=(s.mono (λ_ _ h=> Yp h)).trans (x.mono (λ_ _ h=> Yo h));have n:=heap_setCell (o:=o) (s.az K (λe=>i e)) wJ;rw[hD]at n;have A:wJ.ownBlock≠M k:=λe=>i (t.old e Y)
 have d:∀p∈[(c,N+3),(b,N+2),(a,N+1)],Mk _ _ p.1 p.2/\Mv X z p.1:=λp E=>by
  obtain⟨G,g⟩:=B.ls p E;refine⟨G.kp l (λq f e=>?_),g.le w⟩;have I:q<wr.heap.size->z.ownBlock=M q:=λh=>g.old f h
  grind
 have I:∀p∈[(c,N+3),(b,N+2),(a,N+1)],∀q,wJ.ownBlock=M q->X.heap.size<=q->p.1.ownBlock≠M q:=λp E q f g e=>by
  have G:=(B.ls p E).1.lt e;have:=v q (t.old f G);omega
 refine⟨P,n,x.own L (λq f e=>A (by rw[f,show q=k from e])),t.le Y,(Mk.own B.own).kp l (λq f e=>?_),(d (a,N+1) Vc).1,(d (b,N+2) Vc).1,(d (c,N+3) Vc).1,(d (a,N+1) Vc).2,(d (b,N+2) Vc).2,(d (c,N+3) Vc).2,λq f g=>⟨I (a,N+1) Vc q f g,I (b,N+2) Vc q f g,I (c,N+3) Vc q f g⟩,?_⟩
 .grind
 .exact((J.mono (λq _ h=>h.imp id Yp)).trans (s.mono (λq _ h=> Yp (Yo h)))).trans (x.mono (λq _ h=> Yo h))
def Kl:(Tryz.prog.info? 38).map (λi=>(i.zero,i.size,i.bytes))=M (M (V Yr 0),1,8):=Vf
theorem bk{X:Prop}(h:X:=by
 have h5: -9223372036854775808<=n'/\n'<=9223372036854775807:=by rw[<-hn'];unfold wrap64;omega
 have k0:Kp (one wb) w (w.setCell ⟨wb,3,H⟩ (V O n')):=(Kp.refl _ _).bK _ _;have E:=heap_setCell (o:=3) HB (V O n');have F:=k0.own HO (λb C e=>Hlw (by rw[C,show b=wb from e]));generalize w.setCell ⟨wb,3,H⟩ (V O n')=w2 at *;clear hm hn' hcw hfw;replace k0:=Z k0;replace E:=Z E;replace F:=Z F;change Hid _ at h5;go_loopw [5] (λi wr=> ∃k:Nat,k<=len/\i= V O k/\P wr k/\Kp (λb=>(Value.slice NJ len yZ).ownBlock=M b) w2 wr) (λi _=>len - (intOf i).toNat);case atStart=>exact⟨0,Y,U,by rw[HP.out];simpa using F.out,iR⟩
 case round=>
  obtain⟨k,hk,rfl,d,f⟩:=hrel;simp only[HP.out]at d;have h6:=Z d;replace f:=Z f;by_cases w3:k<len
  .obtain⟨g,hg⟩:∃g,NJ=M ⟨g,0,H⟩:=by
    rcases d.2 with⟨w1,e7⟩|⟨g,w4,k1,w1,-⟩
    .omega
    .cases w1;exact⟨g,U⟩
   subst hg;obtain⟨-,-,k1,G,a⟩:=wT d;obtain⟨c0,h7⟩:=a k Y;have hx:wr.cell? ⟨g,k,H⟩=M c0:=by rw[(ae G).1];exact h7
   have hy:wr.frozen? ⟨g,k,H⟩=false:=(ae G).2 k;clear d G a h7;go_wp2_with fail;go_roundw;case rel=>
    refine⟨k+1,Y,by go_num,?_,f.bE Vg _ _⟩;have k2:k<xs.length:=cj HO.1;simp only[HP.out];rw[<-Kk k2];have ho:=λu=>M3 (k:=k) h6 u
    simp only[Vv]at ho;exact ho _
   case measure=>simp[intOf];omega
  .obtain rfl :k=len:=Y
   rw[WR (cj HO.1),VF]at d;have B0:=Z (IZ.start' HBo d);obtain⟨j1,I,J,L,N⟩:=HI;have w6:=f.size;have h8:=k0.size;have w7:=B0.kp.size;clear d h6 HP;go_wp2_with(at_builtin;refine jM _ U _ _ _ U 0 _ j1 _ _ HU I J L N U _ _ _ U (B0.own.alloc _) _ 1 _ U ?a6 U Vb ?a3 ?a4 (VB _) ?_);case a6=>exact UB Vc
   case a3=>unfold maxLen;omega
   case a4=>omega
   intro v1 w8 l1;have B1:=Z (B0.long l1);have l:v1.ownBlock≠M wr.heap.size:=l1.off Vd B0.lt;obtain⟨n,r,rfl⟩:=l1.new.aJ;obtain⟨a,c⟩:=ae B1.az;clear l1;replace l:=Z l;go_upto_region 8 with fail
   have B2:=Z (B1.set (q:=1) (v:= Q n (k+1) r) (by intro p x;simp at x;subst x;exact l));generalize w8.setCell ⟨wr.heap.size,1,H⟩ (Q n (k+1) r)=e8 at *;clear B1 a c;obtain⟨a,c⟩:=ae B2.az;have w9:=B2.kp.size;have e0:=au B2.az;go_wp2_with(at_builtin;refine jM _ U _ _ _ U 0 _ j1 _ _ HU I J L N U _ _ _ U (B2.own.alloc _) _ 2 _ U ?b6 U Vb ?b3 ?b4 (VB _) ?_);case b6=>exact UB Vc
   case b3=>unfold maxLen;omega
   case b4=>omega
   intro v3 e1 l3;have B3:=Z (B2.long l3);have y:v3.ownBlock≠M wr.heap.size:=l3.off Vd B2.lt;obtain⟨s,t,rfl⟩:=l3.new.aJ;clear l3 a c;replace y:=Z y;obtain⟨a,c⟩:=ae B3.az;go_upto_region 9 with fail
   have B4:=Z (B3.set (q:=2) (v:= Q s (k+2) t) (by intro p x;simp at x;rcases x with rfl |rfl;exact y;exact l));generalize e1.setCell ⟨wr.heap.size,2,H⟩ (Q s (k+2) t)=e9 at *;clear B3 a c;obtain⟨a,c⟩:=ae B4.az;have e2:=B4.kp.size;have e3:=au B4.az;go_wp2_with(at_builtin;refine jM _ rfl _ _ _ rfl 0 _ j1 _ _ HU I J L N rfl _ _ _ rfl (B4.own.alloc _) _ 3 _ rfl ?c6 rfl Vb ?c3 ?c4 (VB _) ?_);case c6=>exact UB Vc
   case c3=>unfold maxLen;omega
   case c4=>omega
   intro v5 w5 l5;have B5:=Z (B4.long l5);have R:v5.ownBlock≠M wr.heap.size:=l5.off Vd B4.lt;obtain⟨i,j,rfl⟩:=l5.new.aJ;clear l5 a c;replace R:=Z R;obtain⟨a,c⟩:=ae B5.az;go_upto_region 10 with fail
   have B6:Hid (IZ wr _ _ _ (Q NJ k yZ) k (w5.setCell ⟨wr.heap.size,3,H⟩ (Q i (k+3) j)) #[Q NJ k yZ,Q n (k+1) r,Q s (k+2) t,Q i (k+3) j,_] [(Q i (k+3) j,k+3),(Q s (k+2) t,k+2),(Q n (k+1) r,k+1)]):=Z (B5.set (q:=3) (v:= Q i (k+3) j) (by intro p x;simp at x;rcases x with rfl |rfl |rfl;exact R;exact y;exact l));generalize w5.setCell ⟨wr.heap.size,3,H⟩ (Q i (k+3) j)=x at *;clear B5 a c;have T:Kp (λb=>b=wb\/(Value.slice NJ k yZ).ownBlock=M b) w x:=((k0.mono (λb _ h=> Yo h)).trans (f.mono (λb _ h=> Yp h))).trans (B6.kp.mono (λb _ h=> Yp h));have h9:=Z (B6.kp.az (f.az E (λe=>Hlw e)) (λe=>Hlw e));have h0:=T.own HBo (λb C e=>by
    rcases e with e|e
    .exact Hbw (by rw[C,e])
    .exact Hlb b e C)
   obtain⟨k3,k4,z⟩:=aA HBo;have h1:∀b,bv.ownBlock=M b->b<w.heap.size:=λb C=>bR HBo C
   have e4:=B6.kp.size;have e5:=au B6.az;obtain⟨j5,z5,k5,h8,k6,k7,k8⟩:=D8;obtain⟨S,p⟩:=HS k3 k4 (Q NJ k yZ) (Q n (k+1) r) (Q s (k+2) t) (Q i (k+3) j) wr.heap.size;have A:∀W,Kp (λb=>bv.ownBlock=M b) x W->S W:=λW k=>by
    rw[p];have W:=k.az h9 (λe=>Hbw e);rw[z]at W;exact⟨(ae W).1,(ae W).2,(ae (k.az B6.az (λe=>cj (h1 _ e)))).1⟩
   have k9:=Z p;clear p;change Hid _ at z T h1;replace h0:=Z h0;change Hid _ at A;refine rj 10 11 (S) ?hS λhS=>?_
   case hS=>exact A _ fL
   have p:=k9.out;subst p;refine tj 0 ?_;iterate 5 refine tn ?_
   refine oj 6 λK D=>?_
   go_simp;have h2:=h0.out;rw[z.out]at h2;refine D _ _ (A _ (((Kp.refl no x).alloc _).drew).any) (λhS=>?_);clear D K;refine oj 7 λK D=>?_
   refine bJ _ Vg _ _ _ Vg 0 _ j5 _ 5 104 HU5 k5 h8 k6 k7 k8 Y _ cnt cs Vg (Kp.own (((Kp.refl no x).alloc _).drew) h2 bW) (Q (M ⟨x.heap.size,0,H⟩) 1 1) 1 _ Vg ((Gn x _ _).kp ((Kp.refl no _).drew) bW) ?g2 ?g3 ?g4 (VB _) ?_;case g2=>intro u hu;simp at hu;rcases hu with rfl |rfl |rfl |rfl |rfl <;>rfl
   case g3=>unfold maxLen;omega
   case g4=>omega
   intro v8 e6 B h3 h4;rw[<-z.out]at h3 h4;have w0:Kp (λb=>bv.ownBlock=M b) x e6:=((((Kp.refl no x).alloc _).drew).any).bS h3 (λb C=> Yo C);refine D _ _ (A _ w0) (λhS=>?_);clear D K;obtain⟨b,C,rfl⟩:=aA B;refine tj 8 ?_;refine tj 9 ?_;refine ej 10 λK D=>?_
   go_simp;refine D _ _ ?_;clear D K;refine dj ?_;have D:=Z (show Mv x bv (Q b (cnt+1) C)from h4.imp id (λe=>⟨_,e,(((Kp.refl no x).alloc _).drew).size⟩));clear hS h4 h3 h2;change Hid _ at w0;replace B:=Z B;go_wp2_with fail;go_end0;exact⟨U,n',m,_,_,_,_,D7.mk' B6 T w0 h9 B D h5 Hlw Hbw Hlb h1 Y Y U⟩):X:=h
def Gp{w:Yw}{wb:Nat}{n:Int}{c1 c2 c5 c6 c7 bv lv:Yx}{cnt len:Nat}{cs xs:List Yx}(f:w.heap[wb]?=M (Yl #[u,c1,c2,V O n,bv,c5,c6,c7] 90))(l:w.ownsRow 0 158 5 bv cnt cs)(a:w.ownsRow 0 5 1 lv len xs)(A:len<=300)(c:lv.ownBlock≠M wb)(d:bv.ownBlock≠M wb)(e:∀b,lv.ownBlock=M b->bv.ownBlock≠M b)(B:cnt<=1000000000):
  Yy prog 89 #[Yv (M ⟨wb,3,H⟩),lv] w (NI Ys 158 (λn v=> #[u,c1,c2,V O n,v,c5,c6,c7]) wb bv cnt cs lv len w):=by
 obtain⟨hcw,hfw⟩:=ae f;obtain⟨n',hn'⟩:=uh (wrap64 (n+1));obtain⟨NJ,yZ,g⟩:=aA a;have r:=au f;have HB:=Z f;have HBo:=Z l;have HO:=Z a;have Hlw:=Z c;have Hbw:=Z d;have Hlb:=Z e;clear f l a c d e;subst g;go_enter func89,ntmps89;go_wp2_with fail;rw[hn'];obtain⟨m,hm⟩:=uh (wrap64 (n'.tmod 250+1)%256:Int);rw[hm];have HI:=Z (info_parts po);have D8:=Z (nT (P:=prog) (t:=158) (n:=5) (b:=104) Vf);have HU:=Z underlying25;have HU5:=Z underlying84;obtain⟨P,p⟩:=bL (λW k=>W.ownsRow 0 5 1 (Q NJ len yZ) len (List.replicate k (V Ys m)++xs.drop k):Yw->Nat->Prop);have HP:=Z p;have HS:Hid (∀h i k s x y z,∃S:Yw->Prop,S=λj=>(∀q,j.cell? ⟨wb,q,H⟩=#[u,c1,c2,V O n',Q h cnt i,c5,c6,c7][q]?)/\(∀q,j.frozen? ⟨wb,q,H⟩=Yj)/\(∀q,j.cell? ⟨z,q,H⟩=#[k,s,x,y,V Ys m][q]?)):=Z (λ_ _ _ _ _ _ _=>⟨_,U⟩);clear p;exact bk
def D9{w:Yw}{wb:Nat}{n:Int}{c1 c2 c4 c6 c7 bv lv:Yx}{cnt len:Nat}{cs xs:List Yx}(f:w.heap[wb]?=M (Yl #[u,c1,c2,V O n,c4,bv,c6,c7] 90))(l:w.ownsRow 0 161 5 bv cnt cs)(a:w.ownsRow 0 38 1 lv len xs)(A:len<=300)(c:lv.ownBlock≠M wb)(d:bv.ownBlock≠M wb)(e:∀b,lv.ownBlock=M b->bv.ownBlock≠M b)(B:cnt<=1000000000):
  Yy prog 91 #[Yv (M ⟨wb,3,H⟩),lv] w (NI Yr 161 (λn v=> #[u,c1,c2,V O n,c4,v,c6,c7]) wb bv cnt cs lv len w):=by
 obtain⟨hcw,hfw⟩:=ae f;obtain⟨n',hn'⟩:=uh (wrap64 (n+1));obtain⟨NJ,yZ,g⟩:=aA a;have r:=au f;have HB:=Z f;have HBo:=Z l;have HO:=Z a;have Hlw:=Z c;have Hbw:=Z d;have Hlb:=Z e;clear f l a c d e;subst g;go_enter func91,ntmps91;go_wp2_with fail;rw[hn'];obtain⟨m,hm⟩:=uh (IntKind.u64.wrap (wrap64 (1000+n')):Int);rw[hm];have HI:=Z (info_parts Kl);have D8:=Z (nT (P:=prog) (t:=161) (n:=5) (b:=104) Vf);have HU:=Z underlying53;have HU5:=Z underlying85;obtain⟨P,p⟩:=bL (λW k=>W.ownsRow 0 38 1 (Q NJ len yZ) len (List.replicate k (V Yr m)++xs.drop k):Yw->Nat->Prop);have HP:=Z p;have HS:Hid (∀h i k s x y z,∃S:Yw->Prop,S=λj=>(∀q,j.cell? ⟨wb,q,H⟩=#[u,c1,c2,V O n',c4,Q h cnt i,c6,c7][q]?)/\(∀q,j.frozen? ⟨wb,q,H⟩=Yj)/\(∀q,j.cell? ⟨z,q,H⟩=#[k,s,x,y,V Yr m][q]?)):=Z (λ_ _ _ _ _ _ _=>⟨_,U⟩);clear p;exact bk
def Km{w:Yw}{wb:Nat}{n:Int}{c1 c2 c4 c5 c7 bv lv:Yx}{cnt len:Nat}{cs xs:List Yx}(f:w.heap[wb]?=M (Yl #[u,c1,c2,V O n,c4,c5,bv,c7] 90))(l:w.ownsRow 0 164 5 bv cnt cs)(a:w.ownsRow 0 2 1 lv len xs)(A:len<=300)(c:lv.ownBlock≠M wb)(d:bv.ownBlock≠M wb)(e:∀b,lv.ownBlock=M b->bv.ownBlock≠M b)(B:cnt<=1000000000):
  Yy prog 92 #[Yv (M ⟨wb,3,H⟩),lv] w (NI O 164 (λn v=> #[u,c1,c2,V O n,c4,c5,v,c7]) wb bv cnt cs lv len w):=by
 obtain⟨hcw,hfw⟩:=ae f;obtain⟨n',hn'⟩:=uh (wrap64 (n+1));obtain⟨NJ,yZ,g⟩:=aA a;have r:=au f;have HB:=Z f;have HBo:=Z l;have HO:=Z a;have Hlw:=Z c;have Hbw:=Z d;have Hlb:=Z e;clear f l a c d e;subst g;go_enter func92,ntmps92;go_wp2_with fail;rw[hn'];obtain⟨m,hm⟩:=uh (wrap64 (1000+n'):Int);rw[hm];have HI:=Z (info_parts xK);have D8:=Z (nT (P:=prog) (t:=164) (n:=5) (b:=104) Vf);have HU:=Z underlying70;have HU5:=Z underlying86;obtain⟨P,p⟩:=bL (λW k=>W.ownsRow 0 2 1 (Q NJ len yZ) len (List.replicate k (V O m)++xs.drop k):Yw->Nat->Prop);have HP:=Z p;have HS:Hid (∀h i k s x y z,∃S:Yw->Prop,S=λj=>(∀q,j.cell? ⟨wb,q,H⟩=#[u,c1,c2,V O n',c4,c5,Q h cnt i,c7][q]?)/\(∀q,j.frozen? ⟨wb,q,H⟩=Yj)/\(∀q,j.cell? ⟨z,q,H⟩=#[k,s,x,y,V O m][q]?)):=Z (λ_ _ _ _ _ _ _=>⟨_,U⟩);clear p;exact bk
end
section
end
section
open Go.RowKit
def uE{P:Prop}(h:P:=by
 go_wp2;go_loopw [5] (λi wr=> ∃(k:Nat),k<=n/\i= V O k/\Kp no w wr) (λi _=>n - (intOf i).toNat);case atStart=>exact⟨0,Y,U,iR⟩
 case round=>
  obtain⟨k,e,rfl,a⟩:=hrel;by_cases d:k<n
  .obtain⟨f,g,c1,b,_,c⟩:=aw.get h (by rw[XK,Vi d]);simp only[Vz]at b;obtain⟨rfl,-,rfl⟩:=b;replace c:=a.aY c;go_wp2;go_roundw;case rel=>exact⟨k+1,Y,by go_num,a⟩
   case measure=>grind[intOf]
  .go_wp2;go_ret;simp_all):P:=h
theorem Co{w:Yw}{n:Nat}(h:aw w u 1 n (List.replicate n (V Ys y)))(d:n<=1000):
  df 64 #[u,V Ys y] w (Yt Yk) λa=>Kp no w a:=by
 obtain⟨e,b,rfl,c⟩:=h.aJ;go_enter func64,ntmps64;exact uE
theorem zd{w:Yw}{n:Nat}(h:aw w u 1 n (List.replicate n (V Yr y)))(d:n<=1000):
  df 65 #[u,V Yr y] w (Yt Yk) λa=>Kp no w a:=by
 obtain⟨e,b,rfl,c⟩:=h.aJ;go_enter func65,ntmps65;exact uE
theorem Ea{w:Yw}{n:Nat}(h:aw w u 1 n (List.replicate n (V O y)))(d:n<=1000):
  df 66 #[u,V O y] w (Yt Yk) λa=>Kp no w a:=by
 obtain⟨e,b,rfl,c⟩:=h.aJ;go_enter func66,ntmps66;exact uE
def Lk(kd:IntKind)(w:Yw)(v:Yx)(m:Int):Prop:= ∃n,n<=1000/\aw w v 1 n (List.replicate n (V kd m))
def BkL(kd:IntKind)(w:Yw)(cnt:Nat)(cells:List Yx):Prop:=
 ∀(k:Nat),k<cnt-> ∃(l a b c:Yx) (m:Int),cells[k*5]?=M l/\cells[k*5+1]?=M a/\cells[k*5+2]?=M b/\cells[k*5+3]?=M c/\cells[k*5+4]?=M (V kd m)/\Lk kd w l m/\Lk kd w a m/\Lk kd w b m/\Lk kd w c m
theorem Lk.kp{a:IntKind}{w':Yw}(h:Lk a X u y)(k:Kp no X w'):Lk a w' u y:=by
 obtain⟨n,b,c⟩:=h;exact⟨n,b,aw.kp c k bW⟩
theorem Lk.aJ{b:IntKind}(h:Lk b X u y):∃a n c,u= Q a n c:=by
 obtain⟨n,-,d⟩:=h;obtain⟨a,c,e,-⟩:=d.aJ;grind
def Lk.Kn(h:Lk Ys X u y):df 64 #[u,V Ys y] X (Yt Yk) λa=>Kp no X a:=by
 obtain⟨n,b,c⟩:=h;grind[Co]
def Lk.Gq(h:Lk Yr X u y):df 65 #[u,V Yr y] X (Yt Yk) λa=>Kp no X a:=by
 obtain⟨n,b,c⟩:=h;grind[zd]
def Lk.NK(h:Lk O X u y):df 66 #[u,V O y] X (Yt Yk) λa=>Kp no X a:=by
 obtain⟨n,b,c⟩:=h;grind[Ea]
theorem lk{X:Prop}(h:X:=by
 obtain⟨l,a,b,c,m,D,e1,e2,e3,e4,s,t,u,v⟩:=hr;obtain⟨L,N,P,E,-,w⟩:=ho.get D;obtain⟨_,_,_,f,-,g⟩:=ho.get e1;obtain⟨_,_,_,i,-,j⟩:=ho.get e2;obtain⟨_,_,_,n,-,o⟩:=ho.get e3;obtain⟨_,_,_,p,-,q⟩:=ho.get e4;cases E;cases f;cases i;cases n;cases p;obtain⟨R,S,T,rfl⟩:=s.aJ;obtain⟨W,na,ca,rfl⟩:=t.aJ;obtain⟨ab,nb,cb,rfl⟩:=u.aJ;obtain⟨ac,nc,cc,rfl⟩:=v.aJ;rw[<-VR]at g j o q;replace w:=HK.aY w;replace g:=HK.aY g;replace j:=HK.aY j;replace o:=HK.aY o;replace q:=HK.aY q;go_wp2_with fail;refine(HF _ _ _ s (HK.alloc _)).bw ?_;rintro w2 x;have d:=Z (x.az (ai wr _) id);have y:=Z ((HK.alloc _).trans x);obtain⟨F,-⟩:=ae d;go_wp2_with fail;refine(HF _ _ _ t y).bw ?_;rintro w3 z;have e:=Z (z.az d id);have A:=Z (y.trans z);obtain⟨G,-⟩:=ae e;go_wp2_with fail;refine(HF _ _ _ u A).bw ?_;rintro w4 B;have r:=Z (B.az e id);have C:=Z (A.trans B);obtain⟨I,-⟩:=ae r;go_wp2_with fail;refine(HF _ _ _ v C).bw ?_;rintro w5 J;have K:=Z (C.trans J);go_wp2_with fail;go_roundw;case rel=>exact⟨k+1,Y,U,by go_num,K⟩
 case measure=>simp[intOf];omega):X:=h
def Ko{c1 c2 c3 bv vv kv:Yx}{vc kc:List Yx}(l:X.heap[b]?=M (Yl #[u,c1,c2,c3,bv,vv,kv,z] 90))
  (e:aw X bv 5 a F)(n:BkL Ys X a F)(f:aw X vv 5 j vc)(p:BkL Yr X j vc)(g:aw X kv 5 N kc)(r:BkL O X N kc)(C:a<=1000000000)(D:j<=1000000000)(E:N<=1000000000):
  df 44 #[Yv (M ⟨b,3,H⟩)] X (Yt Yk) λc=>Kp no X c:=by
 obtain⟨t,w,rfl,-⟩:=e.aJ;obtain⟨x,y,rfl,-⟩:=f.aJ;obtain⟨A,B,rfl,-⟩:=g.aJ;go_enter func44,ntmps44;go_wp2_with fail;go_loopw [3,4,5,6,7,8,9] (λo i _ _ _ _ _ wr=> ∃k:Nat,k<=a/\o= Yt Yk/\i= V O k/\Kp no X wr) (λ_ i _ _ _ _ _ _=>a - (intOf i).toNat);case atStart=>exact⟨0,Y,U,U,iR⟩
 case round=>
  obtain⟨k,s,rfl,rfl,c⟩:=hrel;have HK:=Z c;obtain⟨h,-⟩:=ae (c.az l id);by_cases d:k<a
  .have hr:=n k d;have ho:=e;have HF:=Z (λv m W (q:Lk Ys X v m) (k:Kp no X W)=>(q.kp k).Kn);exact lk
  .go_wp2_with fail;go_loopw [3,10,11,12,13,14,15] (λo i _ _ _ _ _ wr=> ∃k:Nat,k<=j/\o= Yt Yk/\i= V O k/\Kp no X wr) (λ_ i _ _ _ _ _ _=>j - (intOf i).toNat);case atStart=>exact⟨0,Y,U,U,HK⟩
   case round=>
    obtain⟨k,s,rfl,rfl,c⟩:=hrel;have HK:=Z c;obtain⟨h,-⟩:=ae (c.az l id);by_cases d:k<j
    .have hr:=p k d;have ho:=f;have HF:=Z (λv m W (q:Lk Yr X v m) (k:Kp no X W)=>(q.kp k).Gq);exact lk
    .go_wp2_with fail;go_loopw [3,16,17,18,19,20,21] (λo i _ _ _ _ _ wr=> ∃k:Nat,k<=N/\o= Yt Yk/\i= V O k/\Kp no X wr) (λ_ i _ _ _ _ _ _=>N - (intOf i).toNat);case atStart=>exact⟨0,Y,U,U,HK⟩
     case round=>
      obtain⟨k,s,rfl,rfl,c⟩:=hrel;have HK:=Z c;obtain⟨h,-⟩:=ae (c.az l id);by_cases d:k<N
      .have hr:=r k d;have ho:=g;have HF:=Z (λv m W (q:Lk O X v m) (k:Kp no X W)=>(q.kp k).NK);exact lk
      .go_wp2_with fail;go_ret;simp_all
theorem qA(E:Rf.PE)(n:Nat)(l:List UInt8)(e:Int×Int):(Rf.eY E n l (Ym e)).2= Ym e:=by
 cases n with
 |zero=>rfl
 |succ n=>rfl
section
variable{E:Rf.PE}{i:Nat}(he:E.en<=E.data.length)
include he
def qB{a b c:UInt8}{al:List UInt8}(f:∀x,x∈al↔x=a\/x=b\/x=c)(hi:i<=E.en):gF (Rf.cB E a b c (Yn i)) (bP (E.data.take E.en) al i):=by
 unfold Rf.cB bP;rw[qw he hi];cases k:fc (E.data.take E.en) i with
 |error e=>
  show(if _ then Rf.cA 2 _ (Except.error e)else Except.error e)=Except.error e
  split <;>rfl
 |ok x=>
  obtain⟨x,j⟩:=x;show gF (x,if x≠a/\x≠b/\x≠c then Except.error (2,(i:Int))else Except.ok j) (if x∈al then Except.ok (x,j)else Except.error (2,(i:Int)))
  by_cases g:x∈al
  .have d:=(f x).1 g;rw[Vi g,Va (λh=>d.elim h.1 (λq=>q.elim h.2.1 h.2.2))];rfl
  .have d: ¬(x=a\/x=b\/x=c):=λe=>g ((f x).2 e)
   simp only[not_or]at d;rw[Va g,Vi ⟨d.1,d.2.1,d.2.2⟩];rfl
theorem RH:∀(n i:Nat) (l:List UInt8),i<=E.en->gF (Rf.eY E n l (Yn i)) (match cD (bP (E.data.take E.en) [127,126]) n i with | Yn (m,j)=> Yn (l++m,j)| Ym e=> Ym e):=by
 intro n;induction n with
 |zero=>
  intro i l _;show(l,Except.ok i)=(l++[],Except.ok i)
  simp
 |succ n ih=>
  intro i l hi;have d:=qB he (a:=127) (b:=126) (c:=126) (al:=[127,126]) Vc hi;have g:=eF (D:=E.data.take E.en) (i:=i) [127,126] Ve;rw[Rf.eY,Va (by simp[Rf.bn]),cD];cases f:bP (E.data.take E.en) [127,126] i with
  |error e=>
   rw[d.err f];exact qA _ _ _ _
  |ok x=>
   obtain⟨x,j⟩:=x;rw[d.ok f];grind[Rb.ok]
theorem xP(n:Nat)(hi:i<=E.en):gF (Rf.dF E n (Yn i)) (cD (bP (E.data.take E.en) [127,126]) n i):=by
 grind[RH,Rf.dF]
end
def KP(a b:List UInt8):∀(k:Nat) (s:Bd),k<=b.length->fh (a++b) (a.length+k) s=(fh b k s).bind (fh (a++b) a.length):=by
 intro k;induction k with
 |zero=>intro s _;rfl
 |succ k ih=>
  intro s c;rw[<-VR,fh,fh];have e:(a++b).getD (a.length+k) 0=b.getD k 0:=by
   grind
  grind
def GN(a b:List UInt8):∀(k:Nat) (s:Bd),k<=a.length->fh (a++b) k s=fh a k s:=by
 intro k;induction k with
 |zero=>intro s _;rfl
 |succ k ih=>
  grind[fh]
theorem En(s:Bd)(a b:List UInt8):bQ s (a++b)=(bQ s b).bind λc=>bQ c a:=by
 unfold bQ;rw[Vn,KP a b _ _ cQ];congr 1;funext c;simp_all[GN]
theorem lT(s:Bd)(t:UInt8):cO s t=bQ s [t]:=by
 grind[bQ,fh]
def xS(h:C.stack=l++D)(a:C.top.aH<=l.length):bQ C D=M {C with stack:=l}:=by
 have b:∀(k:Nat) (C:Bd) (l:List UInt8),k<=D.length->C.stack=l++D.take k->C.top.aH<=l.length->fh D k C=M {C with stack:=l}:=by
  intro k;induction k with
  |zero=>
   simp_all[fh]
  |succ k ih=>
   intro C l f h a;rw[fh];have e:D.take (k+1)=D.take k++[D.getD k 0]:=by
    grind[List.take_succ_eq_append_getElem]
   rw[e,<-VD]at h;have c:C.stack.length=(l++D.take k).length+1:=Ve
   have d:cO C (D.getD k 0)=M {C with stack:=l++D.take k}:=by
    unfold cO cX;rw[Va Ve];have e1:C.stack.getD (C.stack.length-1) 0=D.getD k 0:=by
     simp_all
    grind
   rw[d];exact ih {C with stack:=l++D.take k} l Y U a
 refine b D.length C l cQ ?_ a;grind
def Av{s:Bd}{st:List UInt8}(c:s.stack=D++st)(d:s.top.aH=D.length)(a:List UInt8):
  (∃m,st=m++a/\Rf.gp st a=(m,Yk)/\bQ s a=M {s with stack:=D++m})\/((Rf.gp st a).2=Yj/\bQ s a=H):=by
 cases h:bQ s a with
 |some b=>
  obtain⟨e,f,g⟩:=om Ve h;have i:D++st=b.stack++a:=Ve
  obtain⟨m,j⟩:∃m,b.stack=D++m:=by
   refine⟨b.stack.drop D.length,?_⟩;have:(b.stack++a).take D.length=D:=Ve
   grind[List.take_append_drop]
  grind[List.append_cancel_left,sD]
 |none=>
  refine Yp ⟨?_,U⟩;cases b:(Rf.gp st a).2 with
  |false=>rfl
  |true=>
   have:=sD.1 ⟨b,U⟩;rw[xS (l:=D++(Rf.gp st a).1) Ve Ve]at h;cases h
def core(b:Bk):Bk:={b with start:=0,waits:=[]}
theorem oq(b:Bk):aO (core b)=aO b:=rfl
def Aw{P:Prop}(h:P:=by
 unfold Bd.bk;rw[Vl,Vl,VN];cases s.af[k]? <;>rfl):P:=h
theorem xf(s:Bd)(k:Nat):core (s.bk k)=(s.af.map core).getD k lO:=by
 exact Aw
def kL{s:Bd}(h:C.af.map core=s.af.map core):core C.top=core s.top:=by
 have a:C.af.length=s.af.length:=by have:=Vy List.length h;grind
 grind[Bd.top,xf]
theorem jg(h:J.af.map core=C.af.map core):J.af.map aO=C.af.map aO:=by
 have:=Vy (List.map aO) h;simpa[Function.comp_def,oq]using this
def OH(l:List Bk)(k:Nat)(b:Bk)(h:core b=core (l.getD k lO)):(l.set k b).map core=l.map core:=by
 apply Xz;grind
def jh(s:Bd)(a:UInt8)(k:Nat):(bu s a k).af.map core=s.af.map core/\(bu s a k).stack=s.stack/\(bu s a k).i=s.i:=by
 unfold bu;split
 .exact⟨U,U,U⟩
 .exact⟨OH _ _ _ U,U,U⟩
def CB(l:List Nat):∀s:Bd,(cx l s).af.map core=s.af.map core/\(cx l s).stack=s.stack/\(cx l s).i=s.i:=by
 induction l with
 |nil=>intro s;exact⟨U,U,U⟩
 |cons k l ih=>
  intro s;have a:=ih (bu s 12 k);have b:=jh s 12 k;exact⟨a.1.trans b.1,a.2.1.trans b.2.1,a.2.2.trans b.2.2⟩
theorem pH{s s':Bd}(b:s'.af=s.af)(c:s'.ao=s.ao)(a:UInt8)(k:Nat):(bu s' a k).ao=(bu s a k).ao/\(bu s' a k).af=(bu s a k).af:=by
 have d:s'.bk k=s.bk k:=by grind[Bd.bk]
 unfold bu;rw[d,b,c];split
 .exact⟨by show s'.ao++_=s.ao++_;rw[c],b⟩
 .exact⟨U,U⟩
def vP(l:List Nat):∀{s s':Bd},s'.af=s.af->s'.ao=s.ao->(cx l s').ao=(cx l s).ao/\(cx l s').af=(cx l s).af:=by
 induction l with
 |nil=>intro s s' a b;exact⟨b,a⟩
 |cons k l ih=>intro s s' a b;exact ih (pH a b 12 k).2 (pH a b 12 k).1
def Em(op:UInt8)(s:Bd)(y:Rf.IR)(s1:Bd):Prop:=
 (op≠12/\op≠13/\op≠14/\op≠15/\s1.ao=s.ao++[⟨op,y.n,0,0,0⟩]/\s1.af=s.af)\/
 (∃k,(op=12\/op=13\/op=15)/\k<s.af.length/\y.ag=[((s.af.length-1-k:Nat):Int)]/\y.put=aO (s.bk k)/\y.take=y.put++(if op=13 then [127]else [])/\
  s1.ao=(bu s (if op=13 then 13 else 12) k).ao/\s1.af=(bu s (if op=13 then 13 else 12) k).af)\/
 (op=14/\ ∃l n,l.length=n+1/\(∀k∈l,k<s.af.length/\aO (s.bk k)=y.put)/\y.ag=l.map (λk=>((s.af.length-1-k:Nat):Int))/\y.take=y.put++[127]/\
  s1.ao=(cx l (bo s ⟨14,n,0,0,0⟩)).ao/\s1.af=(cx l (bo s ⟨14,n,0,0,0⟩)).af)
def Q3{y:Rf.IR}(h:g≠12/\g≠13/\g≠14/\g≠15)(a:J.ao=C.ao++[⟨g,y.n,0,0,0⟩])(b:J.af=C.af):Em g C y J:= Yo ⟨h.1,h.2.1,h.2.2.1,h.2.2.2,a,b⟩
structure Ag(E:Rf.PE)(G:Rf.ez)(c:nt):Prop where
 en:E.en<=E.data.length
 D:c.D=E.data.take E.en
 UR:c.funcs=G.funcs
 bg:c.aZ=G.bg
 yN:c.gl=G.bO.map λg=>(g.1,g.2.1==1)
structure Rl(E:Rf.PE)(s:Bd)(ag:List (List UInt8))(base stack:List UInt8):Prop where
 i:s.i<=E.en
 lab:ag=s.af.map aO
 ne:s.af≠[]
 st:s.stack=base++stack
 hb:s.top.aH=base.length
def ek(op:UInt8)(s:Bd)(base stack:List UInt8)(r:sU)(y:Rf.IR×Rf.PS)(cl:Bool):Prop:=match r with
 | Ym e=>(if y.1.ok=Yj\/(Rf.gp stack y.1.take).2=Yj then Rf.cA 3 s.pos y.2 else y.2)= Ym e
 | Yn s1=>y.1.ok=Yk/\(Rf.gp stack y.1.take).2=Yk/\y.2= Yn s1.i/\s1.aR=cl/\s1.af.map core=s.af.map core/\s1.stack=base++((Rf.gp stack y.1.take).1++y.1.put)/\Em op s y.1 s1
theorem nI{y:Rf.IR×Rf.PS}{a:Bool}{e:Int×Int}(h:y.2= Ym e):ek g C D l (Ym e) y a:=by
 show(if _ then Rf.cA 3 _ y.2 else y.2)=_
 rw[h];split <;>rfl
theorem rO{a:Rf.IR}{b:Bool}(h:a.ok=Yj\/(Rf.gp l a.take).2=Yj):ek g C D l (cZ C) (a,Yn j) b:=by
 show(if _ then Rf.cA 3 _ _ else _)=_
 rw[Vi h];rfl
def fw{op:UInt8}{s s0:Bd}{base stack:List UInt8}{ir:Rf.IR}{cl:Bool}{K:Bd->Bd}(a:s0.stack=base++stack)(d:s0.top.aH=base.length)(b:ir.ok=Yk)
  (e:∀m,(K {s0 with stack:=base++m}).i=j/\(K {s0 with stack:=base++m}).aR=cl/\(K {s0 with stack:=base++m}).af.map core=s.af.map core/\(K {s0 with stack:=base++m}).stack=base++(m++ir.put)/\Em op s ir (K {s0 with stack:=base++m})):
  ek op s base stack (match bQ s0 ir.take with |none=>cZ s|some c=> Yn (K c)) (ir,Yn j) cl:=by
 rcases Av a d ir.take with⟨m,f,c,g⟩|⟨f,c⟩
 .rw[g];obtain⟨h,i,k,l,n⟩:=e m;refine⟨b,by rw[c],by rw[h],i,k,?_,n⟩;rw[l,c]
 grind[rO]
section
variable{E:Rf.PE}{G:Rf.ez}{c:nt}{s:Bd}{ag:List (List UInt8)}{base stack:List UInt8}(A:Ag E G c)(R:Rl E s ag base stack)(hc:s.aR=false)
include A R
def nJ(a:Int):gF (Rf.uM E a (Yn s.i)) (bp c.D (a+1) s.i):=by
 grind[Cq,Ag.D,Ag.en,Rl.i]
def acC:gF (Rf.uM E 4294967295 (Yn s.i)) (UM c.D s.i):=by
 have h:=nJ A R 4294967295;unfold bp at h;cases a:UM c.D s.i with
 |error e=>grind
 |ok x=>
  obtain⟨n,j⟩:=x;have b:n<=4294967295:=by
   unfold UM at a;grind
  grind
omit A in
def RZ:ek 0 s base stack (I2 s) (Rf.aX E G ag stack 0 (Yn s.i)) true:=by
 have h:=fw (ir:={n:=0,ag:=[],value:=0,take:=[],put:=[],ok:=Yk}) (j:=s.i) (K:=λa=>{bo a ⟨0,0,0,0,0⟩with aR:=Yk}) R.st R.hb U
  (λm=>⟨U,U,U,by simp[bo],Q3 Vb U U⟩)
 exact h
include hc
def R7:ek 16 s base stack (py c s) (Rf.aX E G ag stack 16 (Yn s.i)) false:=by
 have a:=nJ A R (G.funcs.length-1);unfold py;rw[show Rf.aX E G ag stack 16 _=(if Rf.bn (Rf.uM E _ _).2 then (⟨0,[],0,[],[],Yj⟩,(Rf.uM E _ _).2)else
  (⟨(Rf.uM E _ _).1,[],0,(G.funcs.getD (Rf.uM E _ _).1 _).1,(G.funcs.getD (Rf.uM E _ _).1 _).2,Yk⟩,(Rf.uM E _ _).2))from U]
 rw[show(G.funcs.length-1+1)=(c.funcs.length:Int)by grind[Ag.UR]]at a;cases b:bp c.D c.funcs.length s.i with
 |error e=>
  rw[a.err b,Vi (show Rf.bn _=Yk from U)];rfl
 |ok x=>
  obtain⟨n,j⟩:=x;rw[a.ok b,Va (by simp[Rf.bn])];simp only[A.UR];exact fw (ir:=⟨n,[],0,(G.funcs.getD n _).1,(G.funcs.getD n _).2,Yk⟩) R.st R.hb U (λm=>⟨U,hc,U,by simp[bo,fj],Q3 Vb U U⟩)
def xT(h:g=32\/g=33\/g=34):ek g s base stack (eK c g s) (Rf.aX E G ag stack g.toNat (Yn s.i)) false:=by
 have b:=nJ A R (G.bg.length-1);rw[show(G.bg.length-1+1)=(c.aZ.length:Int)by grind[Ag.bg]]at b;have f:Rf.aX E G ag stack g.toNat (Yn s.i)=Rf.eK E G g.toNat (Yn s.i):=by rcases h with rfl |rfl |rfl <;>rfl
 rw[f];unfold eK Rf.eK;simp only;cases d:bp c.D c.aZ.length s.i with
 |error e=>
  rw[b.err d,Vi (show Rf.bn _=Yk from U)];rfl
 |ok x=>
  obtain⟨n,j⟩:=x;rw[b.ok d,Va (by simp[Rf.bn])];simp only[A.bg];rcases h with rfl |rfl |rfl
  .exact fw (ir:=⟨n,[],0,[],[G.bg.getD n 0],Yk⟩) (K:=λa=>fj (bo a _) [G.bg.getD n 0]) R.st R.hb U (λm=>⟨U,hc,U,by simp[bo,fj],Q3 Vb U U⟩)
  .have :=fw (s0:={s with i:=j}) (ir:=⟨n,[],0,[G.bg.getD n 0],[],Yk⟩) (K:=λa=>bo a ⟨33,n,0,0,0⟩) R.st R.hb U (λm=>⟨U,hc,U,by simp[bo],Q3 Vb U U⟩);grind[lT]
  .have :=fw (s0:={s with i:=j}) (ir:=⟨n,[],0,[G.bg.getD n 0],[G.bg.getD n 0],Yk⟩) (K:=λa=>fj (bo a ⟨34,n,0,0,0⟩) [G.bg.getD n 0]) R.st R.hb U (λm=>⟨U,hc,U,by simp[bo,fj],Q3 Vb U U⟩);grind[lT]
def Ax{op:UInt8}(h:op=35\/op=36):ek op s base stack (dn c op s) (Rf.aX E G ag stack op.toNat (Yn s.i)) false:=by
 have a:=nJ A R (G.bO.length-1);rw[show(G.bO.length-1+1)=(c.gl.length:Int)by grind[Ag.yN]]at a;have f:Rf.aX E G ag stack op.toNat (Yn s.i)=Rf.dn E G op.toNat (Yn s.i):=by rcases h with rfl |rfl <;>rfl
 rw[f];unfold dn Rf.dn;simp only;cases d:bp c.D c.gl.length s.i with
 |error e=>
  rw[a.err d,Vi (show Rf.bn _=Yk from U)];rfl
 |ok x=>
  obtain⟨n,j⟩:=x;rw[a.ok d,Va (by simp[Rf.bn])];have e:c.gl.getD n (0,Yj)=((G.bO.getD n (0,0,0)).1,(G.bO.getD n (0,0,0)).2.1==1):=by
   rw[A.yN,Vl,Vl,VN];cases G.bO[n]? <;>rfl
  simp only[e];generalize G.bO.getD n _=g at *;rcases h with rfl |rfl
  .exact fw (ir:=⟨n,[],0,[],[g.1],Yk⟩) (K:=λb=>fj (bo b _) [g.1]) R.st R.hb U (λm=>⟨U,hc,U,by simp[bo,fj],Q3 Vb U U⟩)
  .cases k:(g.2.1==1)with
   |false=>rfl
   |true=>
    have:=fw (s0:={s with i:=j}) (ir:=⟨n,[],0,[g.1],[],Yk⟩) (K:=λb=>bo b ⟨36,n,0,0,0⟩) R.st R.hb U (λm=>⟨U,hc,U,by simp[bo],Q3 Vb U U⟩);grind[lT]
end
def Eo(s:Bd)(k:Nat):(s.af.map aO).getD k []=aO (s.bk k):=by
 exact Aw
def ot(s:Bd)(k:Nat):dg s k=match bQ s (aO (s.bk k))with |none=>H|some a=>M (fj a (aO (s.bk k))):=by
 grind[dg]
def ly   :bQ C (D++[g])=match cO C g with |none=>H|some a=>bQ a D:=by
 grind[En,lT]
def tq(h:cO C g=M J)(k:Nat):J.bk k=C.bk k/\J.top=C.top:=by
 have:=(im h).2.2;rw[this];exact⟨U,U⟩
section
variable{E:Rf.PE}{G:Rf.ez}{c:nt}{s:Bd}{ag:List (List UInt8)}{base stack:List UInt8}(A:Ag E G c)(R:Rl E s ag base stack)(hc:s.aR=false)
include A R
def Rl.at(a:j<=E.en):Rl E {s with i:=j} ag base stack:=by
 have:=A.en;exact⟨a,R.lab,R.ne,R.st,R.hb⟩
def xU:match bf c s with
  | Ym e=>(Rf.bf E ag (Yn s.i)).2= Ym e
  | Yn (k,a)=> ∃n j,j<=E.en/\a={s with i:=j}/\Rf.bf E ag (Yn s.i)=((n,aO (s.bk k)),Yn j)/\k<s.af.length/\n=s.af.length-1-k:=by
 have b:ag.length=s.af.length:=by grind[Rl.lab]
 have d:=nJ A R ((ag.length:Int)-1);have f:=cY (D:=c.D) (i:=s.i) (s.af.length:Int) (by rw[A.D,ja A.en];exact R.i);rw[show((ag.length:Int)-1+1)=(s.af.length:Int)by omega]at d;unfold bf Rf.bf;cases a:bp c.D s.af.length s.i with
 |error e=>
  simp only[d.err a];rfl
 |ok x=>
  obtain⟨n,j⟩:=x;simp only[d.ok a];have e:=f.ok a;rw[A.D,ja A.en]at e;have g:=(cz a).1;refine⟨n,j,e,U,?_,Y,Y⟩;rw[Va (by simp[Rf.bn]),b,R.lab,Eo]
omit A in
def OI:ek 15 s base stack (mP s) (Rf.aX E G ag stack 15 (Yn s.i)) true:=by
 have d:Rf.aX E G ag stack 15 (Yn s.i)=(⟨0,[(ag.length:Int)-1],(ag.getD 0 []).length,ag.getD 0 [],ag.getD 0 [],Yk⟩,Yn s.i):=rfl;have e:ag.getD 0 []=aO (s.bk 0):=by rw[R.lab,Eo]
 rw[d,e];unfold mP;rw[ot];have a:=Vs.2 R.ne;have f:ag.length=s.af.length:=by grind[Rl.lab]
 have h:=fw (op:=15) (s:=s) (s0:=s) (base:=base) (stack:=stack) (ir:=⟨0,[(ag.length:Int)-1],(aO (s.bk 0)).length,aO (s.bk 0),aO (s.bk 0),Yk⟩) (j:=s.i) (cl:=Yk) (K:=λb=>{bu (fj b (aO (s.bk 0))) 12 0 with aR:=Yk}) R.st R.hb U
  (λm=>by
   obtain⟨g,i,k⟩:=jh (fj {s with stack:=base++m} (aO (s.bk 0))) 12 0;have b:=pH (s:=s) (s':=fj {s with stack:=base++m} (aO (s.bk 0))) U U 12 0;exact⟨k,U,g,i.trans (by simp[fj]),Yp (Yo ⟨0,Yp (Yp U),a,Ve,U,Vc,b.1,b.2⟩)⟩)
 grind
def Ay{op:UInt8}(a:op=12\/op=13)(hc:s.aR=Yj):ek op s base stack (iW c op s) (Rf.aX E G ag stack op.toNat (Yn s.i)) (op==12):=by
 have l:Rf.aX E G ag stack op.toNat (Yn s.i)=(⟨0,[((Rf.bf E ag (Yn s.i)).1.1:Int)],(Rf.bf E ag (Yn s.i)).1.2.length,(Rf.bf E ag (Yn s.i)).1.2++(if op.toNat=13 then [127]else []),(Rf.bf E ag (Yn s.i)).1.2,Yk⟩,(Rf.bf E ag (Yn s.i)).2):=by
  rcases a with rfl |rfl <;>rfl
 rw[l];have b:=xU A R;unfold iW;cases p:bf c s with
 |error e=>
  grind[nI]
 |ok x=>
  obtain⟨k,f⟩:=x;rw[p]at b;obtain⟨n,j,r,rfl,b,d,t⟩:=b;rw[b];simp only;have h:=fw (op:=op) (s:=s) (s0:={s with i:=j}) (base:=base) (stack:=stack) (ir:=⟨0,[(n:Int)],(aO (s.bk k)).length,aO (s.bk k)++(if op.toNat=13 then [127]else []),aO (s.bk k),Yk⟩) (j:=j) (cl:=op==12) (K:=λf=>{bu (fj f (aO (s.bk k))) op k with aR:=op==12}) R.st R.hb U
   (λm=>by
    obtain⟨e,g,u⟩:=jh (fj {s with i:=j,stack:=base++m} (aO (s.bk k))) op k;have r:=pH (s:=s) (s':=fj {s with i:=j,stack:=base++m} (aO (s.bk k))) U U op k;have y:(if op=13 then (13:UInt8)else 12)=op:=Ve
    exact⟨u,U,e,g.trans (by simp[fj]),Yp (Yo ⟨k,Ve,d,Ve,U,by rcases a with rfl |rfl <;>rfl,Ve,Ve⟩)⟩)
  rcases a with rfl |rfl
  .rw[Va Vb]at h⊢;rw[Va Vb];simp only[VF]at h⊢;rw[ot];have e:aO (Bd.bk {s with i:=j} k)=aO (s.bk k):=rfl;grind
  .rw[Vi Vb]at h⊢;rw[Vi Vb];simp only[ly]at h;cases g:cO {s with i:=j} 127 with
   |none=>grind
   |some u=>
    simp only[g]at h⊢;rw[ot,(tq g k).1];have e:aO (Bd.bk {s with i:=j} k)=aO (s.bk k):=rfl;grind
omit A in
def R8(hc:s.aR=Yj):ek 26 s base stack (pz s) (Rf.aX E G ag stack 26 (Yn s.i)) false:=by
 have d:Rf.aX E G ag stack 26 (Yn s.i)=if stack=[]then (⟨0,[],0,[],[],Yj⟩,Yn s.i)else (⟨0,[],0,[stack.getD (stack.length-1) 0],[],Yk⟩,Yn s.i):=rfl
 rw[d];unfold pz cX;by_cases a:stack=[]
 .rw[Vi a,Vi (by rw[R.st,R.hb,a,VF];omega)];rfl
 .have f:=Vs.2 a;have e:s.stack.length=base.length+stack.length:=by rw[R.st,Vn]
  rw[Va a,Va (by grind[Rl.hb])];have e1:stack=stack.take (stack.length-1)++[stack.getD (stack.length-1) 0]:=by
   grind[List.take_append_drop,List.drop_eq_getElem_cons]
  have b:=sD.2 e1;refine⟨U,b.1,U,hc,U,?_,Q3 Vb U U⟩;simp only[bo];rw[b.2,VF,R.st,Vn,List.take_append,Wu Y];grind
omit A in
def KQ(hc:s.aR=Yj):ek 27 s base stack (fI s) (Rf.aX E G ag stack 27 (Yn s.i)) false:=by
 have k:Rf.aX E G ag stack 27 (Yn s.i)=if stack.length<3 then (⟨0,[],0,[],[],Yj⟩,Yn s.i)else (⟨0,[],0,[stack.getD (stack.length-2) 0,stack.getD (stack.length-2) 0,127],[stack.getD (stack.length-2) 0],Yk⟩,Yn s.i):=rfl
 rw[k];have l:s.stack.length=base.length+stack.length:=by rw[R.st,Vn]
 have h:fI s=if stack.length<3 then cZ s else match bQ s [stack.getD (stack.length-2) 0,stack.getD (stack.length-2) 0,127]with |none=>cZ s|some i=> Yn (fj (bo i ⟨27,0,0,0,0⟩) [stack.getD (stack.length-2) 0]):=by
  unfold fI;have e3:∀t:UInt8,bQ s [t,t,127]=match cO s 127 with |none=>H|some b=>match cO b t with |none=>H|some d=>cO d t:=by
   intro t;rw[show[t,t,127]=[t,t]++[127]from U,ly];cases cO s 127 with
   |none=>rfl
   |some b=>
    simp only;rw[show[t,t]=[t]++[t]from U,ly];grind[lT]
  rw[e3];cases j:cO s 127 with
  |none=>simp
  |some b=>
   obtain⟨m,t,a3⟩:=im j;have a:=(tq j 0).2;simp only;have n:s.stack.length=b.stack.length+1:=Ve
   cases g:cX b with
   |none=>
    unfold cX at g;split at g
    .rename_i e;rw[a,R.hb]at e;grind
    .cases g
   |some x=>
    obtain⟨u,d⟩:=x;obtain⟨o,p,b3⟩:=lx g;have q:b.stack.length=d.stack.length+1:=Ve
    have r:d.top=s.top:=by rw[b3,<-a];rfl
    rw[a,R.hb]at p;simp only;by_cases f:stack.length<3
    .rw[Vi f];have:cO d u=none:=by
      unfold cO cX;rw[Vi (by grind[Rl.hb])]
     rw[this]
    .rw[Va f];have v:stack.getD (stack.length-2) 0=u:=by
      have e:s.stack=(d.stack++[u])++[127]:=by rw[m,o]
      rw[R.st]at e;have:(base++stack)[base.length+(stack.length-2)]?=M u:=by
       grind
      grind
     grind[cO]
 rw[h];by_cases f:stack.length<3
 .simp_all[rO]
 .rw[Va f,Va f];exact fw (s:=s) (s0:=s) (ir:=⟨0,[],0,[stack.getD (stack.length-2) 0,stack.getD (stack.length-2) 0,127],[stack.getD (stack.length-2) 0],Yk⟩) (K:=λi=>fj (bo i ⟨27,0,0,0,0⟩) [stack.getD (stack.length-2) 0]) R.st R.hb U (λm=>⟨U,hc,U,by simp[bo,fj],Q3 Vb U U⟩)
end
theorem CC(E:Rf.PE)(a:List (List UInt8))(r k:Nat)(first :List UInt8)(b:Bool)(c:List Int)(e:Int×Int):(Rf.eD E a r k first b c (Ym e)).2= Ym e:=by
 cases r with
 |zero=>rfl
 |succ r=>rfl
def tu{s:Bd}(h:C.af=s.af)(l:List Nat):jN C l=jN s l:=by
 grind[jN,Bd.bk]
def Ep(a:C.top.aH<=C.stack.length)(h:bQ C D=M J):J.af=C.af:=by
 rw[(om a h).2.2]
def OJ(n:Nat):Bool:=decide (¬(n=0\/n=1)/\ ¬(n=2\/n=3\/n=4)/\ ¬(n=12\/n=13)/\n≠14/\n≠15/\n≠16/\n≠26/\n≠27/\ ¬(32<=n/\n<=34)/\ ¬(n=35\/n=36)/\ ¬(40<=n/\n<=58)/\n≠65/\n≠66)
def GQ(y:Nat):Bool:=match eu (UInt8.ofNat y)with
 |none=> !Rf.fO (UInt8.ofNat y)
 |some r=>Rf.fO (UInt8.ofNat y)&&(
  if r.bM=0 then (decide (y=1)&&decide (r.takes=[])&&decide (r.gives=[]))||(OJ y&&decide (Rf.rG y=(r.takes,r.gives)))
  else if r.bM=1 then decide (40<=y)&&decide (y<=58)&&decide (Rf.vI y=(r.takes,r.gives))
  else if r.bM=2 then decide (y=65)&&decide (r.takes=[])&&decide (r.gives=[127])
  else if r.bM=3 then decide (y=66)&&decide (r.takes=[])&&decide (r.gives=[126])
  else decide (r.bM=4)&&[0,2,3,4,5,11,12,13,14,15,16,26,27,32,33,34,35,36].contains y)
def R9:∀y:Fin 256,GQ y.val=true:=by decide +kernel
def xV(a:UInt8):GQ a.toNat=true:=R9 ⟨a.toNat,a.toNat_lt⟩
theorem ou(a:UInt8):Rf.fO a=Yk↔ ∃r,eu a=M r:=by
 have h:=xV a;unfold GQ at h;rw[WH]at h;grind
section
variable{E:Rf.PE}{G:Rf.ez}{c:nt}{s:Bd}{ag:List (List UInt8)}{base stack:List UInt8}(A:Ag E G c)(R:Rl E s ag base stack)
include A R
def OK:∀(r i k:Nat) (first :List UInt8) (a:Bool) (b:List Int),0<k->i<=E.en->match dN c r {s with i:=i}with
  | Ym e=>(Rf.eD E ag r k first a b (Yn i)).2= Ym e
  | Yn (l,f)=> ∃j,j<=E.en/\f={s with i:=j}/\l.length=r/\(∀q∈l,q<s.af.length)/\Rf.eD E ag r k first a b (Yn i)=((first,a&&l.all (λq=>aO (s.bk q)==first),b++l.map (λq=>((s.af.length-1-q:Nat):Int))),Yn j):=by
 intro r;induction r with
 |zero=>
  intro i k first a b _ hi
  exact⟨i,hi,U,U,Vc,by simp[Rf.eD]⟩
 |succ r ih=>
  intro i k first a b t hi
  have d:=xU A (R.at A hi);rw[dN,Rf.eD,Va (by simp[Rf.bn])];simp only[Va (show ¬k=0 by omega)];cases g:bf c {s with i:=i}with
  |error e=>
   grind[CC]
  |ok x=>
   obtain⟨q,f⟩:=x;rw[g]at d;obtain⟨n,j,h,rfl,d,l,p⟩:=d;have e:Rf.bf E ag (Except.ok i)=((n,aO (s.bk q)),Except.ok j):=d;simp only[e];have u:=ih j (k+1) first (a&&decide (first =aO (s.bk q))) (b++[(n:Int)]) Y h
   grind
def KR{r i:Nat}(hi:i<=E.en):match dN c (r+1) {s with i:=i}with
  | Ym e=>(Rf.eD E ag (r+1) 0 [] Yk [] (Yn i)).2= Ym e
  | Yn (l,d)=> ∃j,j<=E.en/\d={s with i:=j}/\l.length=r+1/\(∀q∈l,q<s.af.length)/\Rf.eD E ag (r+1) 0 [] Yk [] (Yn i)=((aO (s.bk (l.getD 0 0)),jN s l,l.map (λq=>((s.af.length-1-q:Nat):Int))),Yn j):=by
 have a:=xU A (R.at A hi);rw[dN,Rf.eD,Va (by simp[Rf.bn])];simp only[VK];cases f:bf c {s with i:=i}with
 |error e=>
  grind[CC]
 |ok x=>
  obtain⟨q,d⟩:=x;rw[f]at a;obtain⟨n,j,g,rfl,a,h,k⟩:=a;have b:Rf.bf E ag (Except.ok i)=((n,aO (s.bk q)),Except.ok j):=a;simp only[b,Yg,Bool.and_self,Vv];have l:=OK A R r j 1 (aO (s.bk q)) Yk ([]++[(n:Int)]) Y g;cases hm:dN c r {s with i:=j}with
  |error e=>grind
  |ok y=>
   simp_all[jN]
def OL:ek 14 s base stack (er c s) (Rf.aX E G ag stack 14 (Yn s.i)) true:=by
 have N:Rf.aX E G ag stack 14 (Yn s.i)=Rf.er E ag _:=rfl;rw[N];have F:=nJ A R 16;rw[show((16:Int)+1)=17 from U]at F;have S:=cY (D:=c.D) 17 (by rw[A.D,ja A.en];exact R.i);unfold er Rf.er;simp only;cases I:bp c.D 17 s.i with
 |error e=>
  grind[nI,CC,gF.err]
 |ok x=>
  obtain⟨n,j⟩:=x;have f:=S.ok I;rw[A.D,ja A.en]at f;simp only[F.ok I];have t:=KR A R (r:=n) f;cases hm:dN c (n+1) {s with i:=j}with
  |error e=>grind[nI]
  |ok y=>
   obtain⟨l,J⟩:=y;rw[hm]at t;obtain⟨b,T,rfl,z,W,t⟩:=t;rw[t];obtain⟨L,g⟩:=bL (l.map (λq=>((s.af.length-1-q:Nat):Int)):List Int);rw[<-g];simp only;have h0:(Bd.top {s with i:=b}).aH<=(Bd.stack {s with i:=b}).length:=by
    show s.top.aH<=s.stack.length
    rw[R.hb,R.st,Vn];omega
   cases p:jN s l with
   |false=>
    have h:ek 14 s base stack _ (⟨0,L,(aO (s.bk (l.getD 0 0))).length,aO (s.bk (l.getD 0 0))++[127],aO (s.bk (l.getD 0 0)),Yj⟩,Except.ok b) true:=rO (Yo U);cases a:cO {s with i:=b} 127 with
    |none=>exact h
    |some d=>
     simp only;have B:d.af=s.af:=by rw[(im a).2.2]
     cases e:dg d (l.getD n 0)with
     |none=>exact h
     |some u=>
      have b3:u=d:=(CA (by rw[(tq a 0).2];exact(im a).2.1) e).1;simp only;rw[tu (s:=s) (by rw[b3,B]),p,Va Vb];exact h
   |true=>
    have X:aO (s.bk (l.getD n 0))=aO (s.bk (l.getD 0 0)):=by
     grind[jN]
    have C:∀k∈l,k<s.af.length/\aO (s.bk k)=aO (s.bk (l.getD 0 0)):=by
     grind[jN]
    have h:=fw (s0:={s with i:=b}) (ir:=⟨0,L,(aO (s.bk (l.getD 0 0))).length,aO _++[127],aO _,Yk⟩) (K:=λJ=>{cx l (bo (fj J _) _)with aR:=Yk}) R.st R.hb U
     (λm=>by
      obtain⟨a,e,k⟩:=CB l (bo (fj {s with i:=b,stack:=base++m} (aO (s.bk (l.getD 0 0)))) ⟨14,n,0,0,0⟩);have f:=vP l (s:=bo s ⟨14,n,0,0,0⟩) (s':=bo (fj {s with i:=b,stack:=base++m} (aO (s.bk (l.getD 0 0)))) _) U U;exact⟨k,U,a,e.trans (by simp[fj,bo]),Yp (Yp ⟨U,l,n,z,C,g,U,f.1,f.2⟩)⟩)
    simp only[ly]at h;cases a:cO {s with i:=b} 127 with
    |none=>grind
    |some d=>
     simp only[a]at h⊢;rw[ot,(tq a _).1];have k:aO (Bd.bk {s with i:=b} (l.getD n 0))=aO _:=X;rw[k];have B:d.af=s.af:=by rw[(im a).2.2]
     cases e:bQ d (aO _)with
     |none=>grind
     |some u=>
      have b3:u.af=d.af:=Ep (by rw[(tq a 0).2];exact(im a).2.1) e;simp only[e]at h⊢;rw[tu (show(fj u _).af=s.af from b3.trans B),p,Vi U];exact h
def Az{P:Prop}(h:P:=by
 simp only[Wq,Vo,Vx]at gb;rcases gb with⟨⟨a,b⟩,d⟩|⟨a,b⟩
 .rw[a,b,d];rfl
 .unfold OJ at a;simp only[Vx]at a;simp_all[Rf.aX,Rf.iX,Va]):P:=h
def AA{P:Prop}(h:P:=by
 unfold Rf.aX;rw[Va Y,Va Y,Va Y,Va Y,Va Y,Va Y,Va Y,Va Y,Rf.F5 _ _ _ _ ⟨a1,a2⟩,a3]):P:=h
theorem OO(o:s.aR=Yj){r:mQ}(l:eu g=M r)(p:r.bM≠4):ek g s base stack (iZ c g r s) (Rf.aX E G ag stack g.toNat (Yn s.i)) false:=by
 have gb:=xV g;unfold GQ at gb;rw[WH,l]at gb;simp only[Vo]at gb;obtain⟨-,gb⟩:=gb;have d:g≠12/\g≠13/\g≠14/\g≠15:=by
  refine⟨?_,?_,?_,?_⟩<;>(rintro rfl;cases l;grind)
 have step:∀(n j) (y:Rf.IR×Rf.PS),y=(⟨n,[],0,r.takes,r.gives,Yk⟩,Except.ok j)->ek g s base stack (match bQ {s with i:=j} r.takes with |none=>cZ s|some a=> Yn (fj (bo a ⟨g,n,0,0,0⟩) r.gives)) y false:=by
  intro n j y b;rw[b];exact fw (ir:=⟨n,[],0,r.takes,r.gives,Yk⟩) R.st R.hb U (λm=>⟨U,o,U,by simp[bo,fj],Q3 d U U⟩)
 unfold iZ;by_cases f:r.bM=0
 .rw[Vi f]at gb;have h:eh c.D r.bM s.i= Yn (0,s.i):=by rw[f];rfl
  simp only[h];refine step 0 s.i _ ?_;exact Az
 .rw[Va f]at gb;by_cases k:r.bM=1
  .rw[Vi k]at gb;simp only[Vo,Vx]at gb;obtain⟨⟨a1,a2⟩,a3⟩:=gb;have a:=acC A R;have h:eh c.D r.bM s.i=UM c.D s.i:=by rw[k];rfl
   have hi:Rf.aX E G ag stack g.toNat (Yn s.i)=(⟨(Rf.uM E 4294967295 (Yn s.i)).1,[],0,r.takes,r.gives,Yk⟩,(Rf.uM E 4294967295 (Yn s.i)).2):=by
    exact AA
   rw[h];cases b:UM c.D s.i with
   |error e=>grind[nI,gF.err]
   |ok x=>
    obtain⟨n,j⟩:=x;exact step n j _ (by rw[hi,a.ok b])
  .rw[Va k]at gb;by_cases h:r.bM=2
   .rw[Vi h]at gb;simp only[Vo,Vx]at gb;obtain⟨⟨a1,a2⟩,a3⟩:=gb;have a:=Om A.en R.i;rw[<-A.D]at a;have hi:Rf.aX E G ag stack g.toNat (Yn s.i)=(⟨(Rf.sM E 32 (Yn s.i)).1,[],0,r.takes,r.gives,Yk⟩,(Rf.sM E 32 (Yn s.i)).2):=by
     rw[a1,a2,a3];rfl
    rw[h];cases b:eh c.D 2 s.i with
    |error e=>grind[nI,gF.err]
    |ok x=>
     obtain⟨n,j⟩:=x;exact step n j _ (by rw[hi,a.ok b])
   .rw[Va h]at gb;by_cases m:r.bM=3
    .rw[Vi m]at gb;simp only[Vo,Vx]at gb;obtain⟨⟨a1,a2⟩,a3⟩:=gb;have a:=On A.en R.i;rw[<-A.D]at a;have hi:Rf.aX E G ag stack g.toNat (Yn s.i)=(⟨(Rf.sM E 64 (Yn s.i)).1,[],0,r.takes,r.gives,Yk⟩,(Rf.sM E 64 (Yn s.i)).2):=by
      rw[a1,a2,a3];rfl
     rw[m];cases b:eh c.D 3 s.i with
     |error e=>grind[nI,gF.err]
     |ok x=>
      obtain⟨n,j⟩:=x;exact step n j _ (by rw[hi,a.ok b])
    grind
end
def fA(c:nt):Nat->Bd->Bd->Prop
 |0,s,s'=>s=s'
 |k+1,s,s'=>s.af≠[]/\ ∃s1,dK c s= Yn s1/\fA c k s1 s'
def lU(c:nt):Nat->Bd->Int×Int->Prop
 |0,s,e=>s.af≠[]/\dK c s= Ym e
 |k+1,s,e=>s.af≠[]/\ ∃s1,dK c s= Yn s1/\lU c k s1 e
def Jf{c:nt}:∀(k n:Nat) (s a:Bd),fA c k s a->gw c (k+n) s=gw c n a:=by
 intro k;induction k with
 |zero=>intro n s a h;rw[show s=a from h,Vv]
 |succ k ih=>
  intro n s a ⟨b,e,d,f⟩;rw[show k+1+n=(k+n)+1 by omega,gw,Va b,d];grind
def Sa{c:nt}:∀(k n:Nat) (s:Bd) (e:Int×Int),lU c k s e->gw c (k+1+n) s= Ym e:=by
 intro k;induction k with
 |zero=>
  intro n s e ⟨a,b⟩;rw[show 0+1+n=n+1 by omega,gw,Va a,b]
 |succ k ih=>
  intro n s e ⟨a,d,b,f⟩;rw[show k+1+1+n=(k+1+n)+1 by omega,gw,Va a,b];grind
def ry{c:nt}:∀(k m:Nat) (s e f:Bd),fA c k s e->fA c m e f->fA c (k+m) s f:=by
 intro k;induction k with
 |zero=>intro m s e f i g;rw[show s=e from i,Vv];exact g
 |succ k ih=>
  intro m s e f ⟨a,h,b,d⟩ g;rw[show k+1+m=(k+m)+1 by omega];exact⟨a,h,b,ih m h e f d g⟩
def Jg{c:nt}:∀(k m:Nat) (s f:Bd) (e:Int×Int),fA c k s f->lU c m f e->lU c (k+m) s e:=by
 intro k;induction k with
 |zero=>intro m s f e i g;rw[show s=f from i,Vv];exact g
 |succ k ih=>
  intro m s f e ⟨a,h,b,d⟩ g;rw[show k+1+m=(k+m)+1 by omega];exact⟨a,h,b,ih m h f e d g⟩
def wK(c:nt)(n:Nat)(s:Bd)(base:List UInt8)(r:Bool×Rf.PS):Prop:=match r.2 with
 | Ym e=> ∃k,k<=n-s.i/\lU c k s e
 | Yn j=>j<=n/\s.i<j/\(
  if r.1=Yk then s.top.bq=3/\ ∃k s',k<=j-s.i/\fA c k s s'/\s'.i=j/\s'.aR=Yj/\s'.stack=base/\s'.af.map core=s.af.dropLast.map core++[core {s.top with bq:=4}]
  else if s.top.bq=3/\s.top.aL≠[]then ∃k,k<=n-s.i/\lU c k s (3,(j:Int)-1)
  else ∃k s',k<=j-s.i/\fA c k s s'/\s'.i=j/\s'.aR=Yj/\s'.stack=base++s.top.aL/\s'.af.map core=s.af.dropLast.map core)
def KS(h:J.af.map core=C.af.map core):J.af.dropLast.map core=C.af.dropLast.map core:=by
 grind
theorem fQ{a b:Bk}(h:core a=core b):a.bq=b.bq/\a.aL=b.aL/\a.aH=b.aH/\core {a with bq:=4}=core {b with bq:=4}:=by
 grind[core]
theorem wK.pre{c:nt}{r:Bool×Rf.PS}(h:wK c N J D r)(f:fA c k C J)(t:k<=J.i-C.i)(hi:C.i<=J.i)(u:J.i<=N)(n:J.af.map core=C.af.map core):wK c N C D r:=by
 have g:=fQ (kL n);have p:=KS n;unfold wK at h⊢;cases o:r.2 with
 |error e=>
  rw[o]at h;obtain⟨m,q,h⟩:=h;exact⟨k+m,Y,Jg _ _ _ _ _ f h⟩
 |ok j=>
  rw[o]at h;simp only at h⊢;obtain⟨s,v,h⟩:=h;refine⟨s,Y,?_⟩;rw[g.2.2.2,g.1,g.2.1,p]at h;split
  .rename_i e;rw[Vi e]at h;obtain⟨l,m,i,a,b,d⟩:=h;exact⟨l,k+m,i,Y,ry _ _ _ _ _ f b,d⟩
  .rename_i e;rw[Va e]at h;split
   .rename_i l;rw[Vi l]at h;obtain⟨m,q,h⟩:=h;exact⟨k+m,Y,Jg _ _ _ _ _ f h⟩
   .rename_i l;rw[Va l]at h;obtain⟨m,i,a,b,d⟩:=h;exact⟨k+m,i,Y,ry _ _ _ _ _ f b,d⟩
section
variable{E:Rf.PE}{G:Rf.ez}{c:nt}{s:Bd}{ag:List (List UInt8)}{base stack:List UInt8}(A:Ag E G c)(R:Rl E s ag base stack)(hc:s.aR=false)
include A R hc
def Jh{r:mQ}(f:eu g=M r)(i:g≠2)(j:g≠3)(k:g≠4)(l:g≠5)(d:g≠11):
  ek g s base stack (if r.bM=4 then gV c g s else iZ c g r s) (Rf.aX E G ag stack g.toNat (Yn s.i)) (decide (g=0\/g=12\/g=14\/g=15)):=by
 have b:=xV g;unfold GQ at b;rw[WH,f]at b;simp only[Vo]at b;obtain⟨-,b⟩:=b;by_cases e:r.bM=4
 .rw[Vi e];rw[Va Y,Va Y,Va Y,Va Y]at b;simp only[Vo,XP,Wg,WK,XW]at b;have a:∀q:UInt8,g.toNat=q.toNat->g=q:=λq h=>Vp.1 h
  rcases b.2 with h|h|h|h|h|h|h|h|h|h|h|h|h|h|h|h|h|h
  .obtain rfl :=a 0 h;exact RZ R
  .exact absurd (a 2 h) i
  .exact absurd (a 3 h) j
  .exact absurd (a 4 h) k
  .exact absurd (a 5 h) l
  .exact absurd (a 11 h) d
  .obtain rfl :=a 12 h;exact Ay A R (Yo U) hc
  .obtain rfl :=a 13 h;exact Ay A R (Yp U) hc
  .obtain rfl :=a 14 h;exact OL A R
  .obtain rfl :=a 15 h;exact OI R
  .obtain rfl :=a 16 h;exact R7 A R hc
  .obtain rfl :=a 26 h;exact R8 R hc
  .obtain rfl :=a 27 h;exact KQ R hc
  .obtain rfl :=a 32 h;exact xT A R hc (Yo U)
  .obtain rfl :=a 33 h;exact xT A R hc (Yp (Yo U))
  .obtain rfl :=a 34 h;exact xT A R hc (Yp (Yp U))
  .obtain rfl :=a 35 h;exact Ax A R hc (Yo U)
  .obtain rfl :=a 36 h;exact Ax A R hc (Yp U)
 .rw[Va e];have m:decide (g=0\/g=12\/g=14\/g=15)=false:=by
   rw[V7];rintro(rfl |rfl |rfl |rfl);all_goals
    have a:∀q,eu q=M r->(eu q).map (λr=>r.bM)=M r.bM:=λq h=>by rw[h];rfl
    have:=a _ f;first
     |exact e (Vr (this.symm.trans Vb))
  grind[OO]
end
def j7(h:fc D k= Yn (g,j)):j=k+1/\k<D.length:=by
 unfold fc at h;grind
theorem OP(l:List Bk)(h:l≠[])(b:Bk):l.set (l.length-1) b=l.dropLast++[b]:=by
 rcases List.eq_nil_or_concat l with rfl |⟨c,a,rfl⟩<;>simp_all
def Er(l:List Nat):∀s:Bd,(cC l s).af=s.af/\(cC l s).stack=s.stack/\(cC l s).i=s.i:=by
 induction l with
 |nil=>intro s;exact⟨U,U,U⟩
 |cons n l ih=>intro s;exact ih (dZ s n)
def ow{c:nt}{r:mQ}(a:fc c.D C.i= Yn (g,j))(b:eu g=M r)(h: ¬(C.aR=Yk/\g≠5/\g≠11)):
  dK c C=if r.bM=4 then gV c g {C with pos:=C.i,i:=j}else iZ c g r {C with pos:=C.i,i:=j}:=by
 simp_all[dK]
theorem mr(G:Rf.ez)(f:Nat)(E:Rf.PE)(a:List (List UInt8))(b:List UInt8)(c:Bool)(d:List UInt8)(g:Bool)(e:Int×Int):Rf.az G f E a b c d g (Ym e)=(Yj,Ym e):=by
 cases f with
 |zero=>rfl
 |succ f=>rfl
def Es(l:List Bk)(b:Bk)(s:Bd)(h:s.af=l++[b]):s.top=b:=by
 unfold Bd.top Bd.bk;grind
def uK{s:Bd}{l:List Bk}{b:Bk}(h:s.af.map core=l++[b]):core s.top=b:=by
 have a:s.af.length=l.length+1:=by have:=Vy List.length h;grind
 simp_all[Bd.top,xf]
section
variable{E:Rf.PE}{s:Bd}{ag:List (List UInt8)}{base stack:List UInt8}(R:Rl E s ag base stack)
include R
def tx:nB s (s.af.length-1)=(s.aR||(stack==s.top.aL)):=by
 have a:s.stack.drop s.top.aH=stack:=by rw[R.hb,R.st,List.drop_left' U]
 show(s.aR||s.stack.drop s.top.aH==s.top.aL)=_
 rw[a]
def Ji(b:s.top.bq=3)(c:(s.aR||(stack==s.top.aL))=Yk):∃a,iC s= Yn a/\a.i=s.i/\a.aR=Yj/\a.stack=base/\a.af.map core=s.af.dropLast.map core++[core {s.top with bq:=4}]:=by
 unfold iC;rw[tx R,c,Va (by simp[b])];obtain⟨a,d,e⟩:=jh s 5 (s.af.length-1);have f:(bu s 5 (s.af.length-1)).af≠[]:=by
  intro h;rw[h]at a;exact R.ne (X3.1 a.symm)
 have g:=fQ (kL a);refine⟨_,U,e,U,?_,?_⟩
 .show(bu s 5 (s.af.length-1)).stack.take (bu s 5 (s.af.length-1)).top.aH=base
  rw[d,g.2.2.1,R.hb,R.st,List.take_left' U]
 .show((bu s 5 (s.af.length-1)).af.set ((bu s 5 (s.af.length-1)).af.length-1) {(bu s 5 (s.af.length-1)).top with bq:=4}).map core=_
  grind[OP]
def OQ(j: ¬(s.top.bq=3/\s.top.aL≠[]))(g:(s.aR||(stack==s.top.aL))=Yk):∃b,kQ s= Yn b/\b.i=s.i/\b.aR=Yj/\b.stack=base++s.top.aL/\b.af.map core=s.af.dropLast.map core:=by
 unfold kQ;rw[tx R,g,Va Ve];have i:∀a:Bd,a.af=s.af->a.stack=s.stack->a.i=s.i-> ∃b,(Except.ok {a with stack:=a.stack.take s.top.aH++s.top.aL,af:=a.af.take (a.af.length-1),aR:=Yj}:sU)= Yn b/\b.i=s.i/\b.aR=Yj/\b.stack=base++s.top.aL/\b.af.map core=s.af.dropLast.map core:=by
  intro a e c d;refine⟨_,U,d,U,?_,?_⟩
  .show a.stack.take s.top.aH++s.top.aL=_
   rw[c,R.hb,R.st,List.take_left' U]
  grind[List.dropLast_eq_take]
 have b:∀a:Bd,a=(if s.top.bq=3 then dZ s (s.top.start-1)else s)->a.af=s.af/\a.stack=s.stack/\a.i=s.i:=by
  intro a h;rw[h];split <;>exact⟨U,U,U⟩
 obtain⟨a,c⟩:=bL ((if s.top.bq=3 then dZ s (s.top.start-1)else s));have b:=b a c;have d:=Er s.top.waits a;obtain⟨e,f⟩:=bL ((if s.top.bq=0 then bo (cC s.top.waits a) ⟨11,0,0,0,0⟩else cC s.top.waits a));have h:e.af=s.af/\e.stack=s.stack/\e.i=s.i:=by
  rw[f];split
  .exact⟨d.1.trans b.1,d.2.1.trans b.2.1,d.2.2.trans b.2.2⟩
  grind
 grind
end
def Ag.uw{E:Rf.PE}{G:Rf.ez}{c:nt}(A:Ag E G c)(d:Int):Ag {E with d:=d} G c:=⟨A.en,A.D,A.UR,A.bg,A.yN⟩
theorem js{c:nt}{b:Bool}{e:Int×Int}(a:C.af≠[])(h:dK c C= Ym e):wK c k C D (b,Ym e):=⟨0,VB _,a,h⟩
def Sb{G:Rf.ez}{c:nt}(ih:∀(E:Rf.PE) (C:Bd) (i:List (List UInt8)) (D a:List UInt8),Ag E G c->Rl E C i D a->E.d=(C.af.length:Int)-1->E.en-C.i<b->
   wK c E.en C D (Rf.az G b E i C.top.aL (decide (C.top.bq=3)) a C.aR (Yn C.i)))
  {E:Rf.PE}{i:List (List UInt8)}{m:List UInt8}{t:UInt8}(A:Ag E G c)(hd:E.d=(C.af.length:Int)-1)(w0:i=C.af.map aO)(X:C.af≠[])(w1:C.top.aH=D.length)
  (K:g=2\/g=3\/g=4)(h0:E.d≠16)(h1:dK c C= Yn J)(hi:C.i<J.i)(hn:J.i<=E.en)(hf:E.en-J.i<b)(h2:J.aR=Yj)(w2:J.stack=D++m)
  {st:Nat}(w:J.af=C.af++[⟨if g=3 then 2 else if g=4 then 3 else 1,if t=64 then []else [t],(D++m).length,st,[]⟩])(h3:Int)
  {T:Bool×Rf.PS}(n:T=(let z:=Rf.et (λe f h j a=>Rf.az G b e f h j [] Yj a) E i g.toNat t.toNat h3 m (Yn J.i);Rf.az G b E i C.top.aL (decide (C.top.bq=3)) z.1 Yj z.2)):
  wK c E.en C D T:=by
 have w3:E.en=({E with d:=E.d+1}:Rf.PE).en:=rfl;have p:=Es _ _ J w;obtain⟨a,L⟩:∃a:List UInt8,a=if t=64 then []else [t]:=⟨_,U⟩
 have h4:(if t.toNat=64 then ([]:List UInt8)else [UInt8.ofNat t.toNat])=a:=by
  rw[L,WH];by_cases h:t=64
  .rw[Vi h,Vi (by rw[h];rfl)]
  .rw[Va h,Va (λe=>h (Vp.1 (by rw[e];rfl)))]
 rw[<-L]at w p;obtain⟨q,x⟩:∃q:Nat,q=if g=3 then 2 else if g=4 then 3 else 1:=⟨_,U⟩
 rw[<-x]at w p;have h5:decide (g.toNat=4)=decide (q=3):=by rw[x];rcases K with rfl |rfl |rfl <;>rfl
 have h6:(if g.toNat=3 then ([]:List UInt8)else a)=aO ⟨q,a,(D++m).length,st,[]⟩:=by
  show _=if q=2 then []else a
  rw[x];rcases K with rfl |rfl |rfl <;>rfl
 have h7:(g.toNat=4)↔q=3:=by
  grind
 unfold Rf.et at n;rw[Va h0]at n;simp only[h4,h5,h6]at n;simp only[h7]at n;obtain⟨o,h8⟩:=bL (i++[aO ⟨q,a,(D++m).length,st,[]⟩]);rw[<-h8]at n;have w4:J.af.length=C.af.length+1:=Ve
 have R2:Rl {E with d:=E.d+1} J o (D++m) []:=⟨hn,Ve,Ve,Ve,by rw[p]⟩;have l:=ih {E with d:=E.d+1} J o (D++m) [] (A.uw _) R2 Ve hf;rw[p,h2]at l;simp only at l;have y:fA c 1 C J:=⟨X,J,h1,U⟩
 --what comes bM
 have N:∀(f:Bd) (k:Nat),fA c k C f->k<=f.i-C.i->J.i<=f.i->f.i<=E.en->f.aR=Yj->f.stack=D++m++a->f.af.map core=C.af.map core->
   wK c E.en C D (Rf.az G b E i C.top.aL (decide (C.top.bq=3)) (m++a) Yj (Yn f.i)):=by
  intro f k s P r j u z v;have h9:=fQ (kL v);have k0:f.af.length=C.af.length:=by have:=Vy List.length v;grind
  have R3:Rl E f i D (m++a):=⟨j,by grind[jg],Ve,Ve,Y⟩;grind[wK.pre]
 have w5:∀(e:Int×Int) (k:Nat),k<=E.en-J.i->lU c k J e->wK c E.en C D (Yj,Ym e):=by
  intro e k P h;exact⟨1+k,Y,Jg _ _ _ _ _ y h⟩
 generalize w6:Rf.az G b {E with d:=E.d+1} o a (decide (q=3)) [] Yj (Yn J.i)=r1 at *;obtain⟨b1,k1⟩:=r1;cases k1 with
 |error e=>
  have W:T=(Yj,Ym e):=by
   rw[n];cases b1
   .simp only[Vq,VL];split
    .exact mr _ _ _ _ _ _ _ _ _
    grind[mr]
   .simp only[VK,mr]
  rw[W];obtain⟨k,P,h⟩:=l;grind
 |ok j=>
  obtain⟨k2,w7,l⟩:=l;rw[p]at l;simp only at l;cases b1 with
  |true=>
   rw[Vi U]at l;obtain⟨w8,k,f,P,B,F,u,z,v⟩:=l;have r:f.af.map core=C.af.map core++[core ⟨4,a,(D++m).length,st,[]⟩]:=by
    grind
   have h9:=uK r;have w9:f.af.map aO=C.af.map aO++[a]:=by
    have:=Vy (List.map aO) r;rw[Wb,Xg,Xg]at this;exact this
   have s:f.top.bq=4/\f.top.aL=a/\f.top.aH=(D++m).length:=by
    grind[core]
   have k0:f.af.length=C.af.length+1:=by have:=Vy List.length r;grind
   have e0:aO ⟨q,a,(D++m).length,st,[]⟩=a:=by
    show(if q=2 then []else a)=a
    rw[Va Y]
   have R3:Rl {E with d:=E.d+1} f o (D++m) []:=⟨Y,Ve,Ve,Ve,s.2.2⟩;have I:=ih {E with d:=E.d+1} f o (D++m) [] (A.uw _) R3 Ve Y;rw[s.1,s.2.1,u,show decide ((4:Nat)=3)=Yj from U,F]at I;simp only[VK]at n;have R:=ry _ _ _ _ _ y B;generalize e1:Rf.az G b {E with d:=E.d+1} o a Yj [] Yj (Yn j)=r2 at *;obtain⟨b2,k3⟩:=r2;cases k3 with
   |error e=>
    have W:T=(Yj,Ym e):=by
     grind[mr]
    rw[W];obtain⟨k4,S,h⟩:=I;have k5:=S;exact⟨1+k+k4,Y,Jg _ _ _ _ _ R h⟩
   |ok j2=>
    obtain⟨e,e2,I⟩:=I;rw[s.1,s.2.1]at I;cases b2 with
    |true=>grind
    |false=>
     rw[Va (X6),Va Y]at I;obtain⟨k4,s4,S,k5,k6,k7,k8,e3⟩:=I;have k9:s4.af.map core=C.af.map core:=by
      grind
     rw[n,<-k6];have e4:=e;exact N s4 (1+k+k4) (ry _ _ _ _ _ R k5) Y Y Y k7 k8 k9
  |false=>
   rw[Va Vb]at l;simp only[Vq,VL]at n;by_cases e:q=3/\a≠[]
   .rw[Vi e]at l n;obtain⟨k,P,h⟩:=l;have W:T=(Yj,Ym (3,(j:Int)-1)):=by
     rw[n];exact mr _ _ _ _ _ _ _ _ _
    grind
   .rw[Va e]at l n;obtain⟨k,f,P,B,F,u,z,v⟩:=l;have r:f.af.map core=C.af.map core:=Ve
    rw[n,<-F];have h:=k2;exact N f (1+k) (ry _ _ _ _ _ y B) Y Y Y u z r
def US{E:Rf.PE}{G:Rf.ez}{c:nt}(A:Ag E G c)(hi:b<=E.en)(m:fc c.D b= Yn (g,j))(a:List (List UInt8))(f:List UInt8)(h:Bool)(d:List UInt8)(i:Bool):
  Rf.az G (k+1) E a f h d i (Yn b)=
   if g=5\/g=11 then (decide (g=5),if (i=Yj/\d≠f)\/(g=5/\h=Yj)then Ym (3,(b:Int))else Yn j)else
   if Rf.fO g=Yj then (Yj,Ym (2,(b:Int)))else
   if i=Yk then (Yj,Ym (3,(b:Int)))else
   let y:=Rf.aX E G a d g.toNat (Yn j)
   let o:=Rf.gp d y.1.take
   let e:=if y.1.ok=Yj\/o.2=Yj then Rf.cA 3 b y.2 else y.2
   if Rf.bn e then (Yj,e)else
   let z:=if g=2\/g=3\/g=4 then Rf.et (λn p q r l=>Rf.az G k n p q r [] Yj l) E a g.toNat y.1.n b (o.1++y.1.put) e else (o.1++y.1.put,e)
   Rf.az G k E a f h z.1 (decide (g=0\/g=12\/g=14\/g=15)) z.2:=by
 rw[Rf.az,Va (by simp[Rf.bn])];have e:Rf.b8 E (Yn b)=(g,Yn j):=by rw[qw A.en hi,<-A.D,m];rfl
 simp only[e];rfl
def Sc{E:Rf.PE}{G:Rf.ez}{c:nt}{e:Int×Int}(A:Ag E G c)(hi:b<=E.en)(i:fc c.D b= Ym e)(a:List (List UInt8))(d:List UInt8)(f:Bool)(g:List UInt8)(h:Bool):
  Rf.az G (k+1) E a d f g h (Yn b)=(Yj,Ym e):=by
 rw[Rf.az,Va (by simp[Rf.bn])];have j:Rf.b8 E (Yn b)=(0,Ym e):=by rw[qw A.en hi,<-A.D,i];rfl
 simp_all[Rf.bn]
def AB{E:Rf.PE}{a:List (List UInt8)}(R:Rl E C a D l)(h:(C.aR||(l==C.top.aL))=Yj\/(C.top.bq=3/\C.top.aL≠[])):kQ C=cZ C:=by
 unfold kQ;rw[tx R,Vi h]
def OT{G:Rf.ez}{c:nt}:∀(f:Nat) (E:Rf.PE) (s:Bd) (ag:List (List UInt8)) (n stack:List UInt8),Ag E G c->Rl E s ag n stack->E.d=(s.af.length:Int)-1->E.en-s.i<f->
  wK c E.en s n (Rf.az G f E ag s.top.aL (decide (s.top.bq=3)) stack s.aR (Yn s.i)):=by
 intro f;induction f with
 |zero=>omega
 |succ f ih=>
  intro E s ag n stack A R hd hf;cases F:fc c.D s.i with
  |error e=>
   rw[Sc A R.i F];grind[js,dK,Rl.ne]
  |ok p=>
   obtain⟨x,j⟩:=p;obtain⟨hj,W⟩:=j7 F;rw[A.D,ja A.en]at W;rw[US A R.i F];have I:Rl E {s with pos:=s.i,i:=j} ag n stack:=⟨Ve,R.lab,R.ne,R.st,R.hb⟩;by_cases o:x=5\/x=11
   .rw[Vi o];have u:=tx I;rcases o with rfl |rfl
    .have l:=ow F (show eu 5=M ⟨2,5,4,[],[]⟩from U) Vc;rw[Vi U]at l;have d:dK c s=iC {s with pos:=s.i,i:=j}:=l;by_cases w:s.top.bq=3/\(s.aR||(stack==s.top.aL))=Yk
     .obtain⟨q,J,K,v,L,N⟩:=Ji I w.1 w.2;rw[J]at d;rw[Va (by
       grind)]
      refine⟨Y,Y,?_⟩;rw[Vi Vc];exact⟨w.1,1,q,Y,⟨R.ne,q,d,U⟩,K,v,L,N⟩
     .have g:iC {s with pos:=s.i,i:=j}= Ym (3,(s.i:Int)):=by
       unfold iC;rw[u,Vi]
       .rfl
       .by_cases h:s.top.bq=3
        .right
         cases r:(s.aR||(stack==s.top.aL))with
         |false=>exact r
         |true=>grind
        .exact Yo h
      rw[g]at d;rw[Vi (by
       grind)]
      grind[js,Rl.ne]
    .have l:=ow F (show eu 11=M ⟨11,16,4,[],[]⟩from U) Vc;rw[Vi U]at l;have d:dK c s=kQ {s with pos:=s.i,i:=j}:=l;cases r:(s.aR||(stack==s.top.aL))with
     |false=>
      have g:kQ {s with pos:=s.i,i:=j}= Ym (3,(s.i:Int)):=AB I (Yo r);rw[g]at d;rw[Vi Ve];grind[js,Rl.ne]
     |true=>
      rw[Va (by
       grind)]
      refine⟨Y,Y,?_⟩;rw[Va Vc];by_cases h:s.top.bq=3/\s.top.aL≠[]
      .rw[Vi h];have g:kQ {s with pos:=s.i,i:=j}= Ym (3,(s.i:Int)):=AB I (Yp h);rw[g]at d;refine⟨0,VB _,R.ne,?_⟩;grind
      .rw[Va h];obtain⟨q,J,K,v,L,N⟩:=OQ I h r;rw[J]at d;exact⟨1,q,Y,⟨R.ne,q,d,U⟩,K,v,L,N⟩
   .rw[Va o];have N:x≠5:=λe=>o (Yo e)
    have X:x≠11:=λe=>o (Yp e)
    cases w:eu x with
    |none=>
     have P:Rf.fO x=false:=by
      grind[ou]
     rw[Vi P];grind[js,dK,Rl.ne]
    |some r=>
     have P:Rf.fO x=true:=(ou x).2 ⟨r,w⟩;rw[Va Ve];cases S:s.aR with
     |true=>
      rw[Vi U];exact js R.ne (by simp_all[dK])
     |false=>
      rw[Va Vb];have l:=ow F w Ve;by_cases g:x=2\/x=3\/x=4
      .simp only[Vi g];have h0:decide (x=0\/x=12\/x=14\/x=15)=false:=Ve
       rw[h0];have hM:Rf.aX E G ag stack x.toNat (Yn j)=(⟨(Rf.cB E 64 127 126 (Yn j)).1.toNat,[],0,if x=4 then [127]else [],[],Yk⟩,(Rf.cB E 64 127 126 (Yn j)).2):=by
        rcases g with rfl |rfl |rfl <;>rfl
       rw[hM];simp only;have d:dK c s=lQ c x {s with pos:=s.i,i:=j}:=by
        rw[l];have y:r.bM=4:=by
         have h:(eu x).map (λr=>r.bM)=M 4:=by rcases g with rfl |rfl |rfl <;>rfl
         grind
        rw[Vi y];rcases g with rfl |rfl |rfl <;>rfl
       have z:=qB A.en (i:=j) (a:=64) (b:=127) (c:=126) (al:=[127,126,64]) Ve Y;have y:=eF (D:=c.D) (i:=j) [127,126,64] (by grind[Ag.D,Ag.en]);rw[<-A.D]at z;unfold lQ at d;cases u:bP c.D [127,126,64] j with
       |error e=>
        simp only[u]at d;have h:=z.err u;rw[h];have v:(if Yk=Yj\/(Rf.gp stack (if x=4 then [127]else [])).2=Yj then Rf.cA 3 (s.i:Int) (Except.error e)else Except.error e)=(Except.error e:Rf.PS):=by
         simp_all[Rf.cA]
        rw[v,Vi (show Rf.bn (Except.error e)=Yk from U)];grind[js,Rl.ne]
       |ok q=>
        obtain⟨t,h⟩:=q;simp only[u]at d;have h1:h<=c.D.length:=y.ok u;rw[A.D,ja A.en]at h1;have h4:h=j+1:=by
         unfold bP at u;split at u
         .cases u
         .rename_i B;split at u
          .cases u;exact(j7 B).1
          .cases u
        rw[z.ok u];simp only;have h2:(if x=4 then cO {s with pos:=s.i,i:=h} 127 else M {s with pos:=s.i,i:=h})=bQ {s with pos:=s.i,i:=h} (if x=4 then [127]else []):=by
         split
         .grind[lT]
         .rfl
        rw[h2]at d;rcases Av (s:={s with pos:=s.i,i:=h}) R.st R.hb (if x=4 then [127]else [])with⟨m,hm,B,C⟩|⟨B,C⟩
        .rw[B];simp only[C]at d;rw[Va (show ¬(Yk=Yj\/Yk=Yj)by simp),Va (show ¬Rf.bn (Except.ok h)=Yk by simp[Rf.bn])];simp only[VF];by_cases T:E.d=16
         .have hz:Rf.et (λE' l' r' o' h3=>Rf.az G f E' l' r' o' [] Yj h3) E ag x.toNat t.toNat (s.i:Int) m (Yn h)=([],Ym (3,(s.i:Int))):=by
           unfold Rf.et;rw[Vi T];rfl
          rw[hz];simp only;rw[mr];rw[Vi Y]at d;exact js R.ne d
         .rw[Va Y]at d;refine Sb ih A hd R.lab R.ne R.hb g T (t:=t) (m:=m) d (by show s.i<h;omega) (by show h<=E.en;omega) (by show E.en-h<f;omega) S U (st:=s.ao.length+1) ?_ (s.i:Int) U;rfl
        .have T:Yk=Yj\/(Rf.gp stack (if x=4 then [127]else [])).2=false:= Yp B;rw[Vi T];simp only[C]at d;rw[Vi (show Rf.bn (Rf.cA 3 (s.i:Int) (Except.ok h))=Yk from U)];exact js R.ne d
      .simp only[Va g];have K:x≠2:=λe=>g (Yo e)
       have v:x≠3:=λe=>g (Yp (Yo e))
       have L:x≠4:=λe=>g (Yp (Yp e))
       have u:=Jh A I S w K v L N X;rw[<-l]at u;have z:=Rf.qo (E:=E) (G:=G) (ag:=ag) (stack:=stack) (op:=x.toNat) (σ:= Yn j) (λi hi=>Ve);change ek x _ n stack (dK c s) (Rf.aX E G ag stack x.toNat (Yn j)) _ at u;generalize Rf.aX E G ag stack x.toNat (Yn j)=y at *;cases q:dK c s with
       |error e=>
        rw[q]at u;have d:(if y.1.ok=Yj\/(Rf.gp stack y.1.take).2=Yj then Rf.cA 3 (s.i:Int) y.2 else y.2)= Ym e:=u;rw[d,Vi (show Rf.bn (Except.error e)=Yk from U)];grind[js,Rl.ne]
       |ok e=>
        rw[q]at u;obtain⟨k1,k2,C,k4,k5,k6,-⟩:=u;rw[Va (show ¬(y.1.ok=Yj\/(Rf.gp stack y.1.take).2=Yj)by grind),C,Va (show ¬Rf.bn (Except.ok e.i)=Yk by simp[Rf.bn])];have B:j<=e.i/\e.i<=E.en:=by
         rw[C]at z;rcases z with h|⟨a,b,ha,d,T,h0⟩
         .cases h
         grind
        have d:e.af.map core=s.af.map core:=k5;have T:=fQ (kL d);have h:e.af.length=s.af.length:=by have:=Vy List.length d;grind
        have R1:Rl E e ag n ((Rf.gp stack y.1.take).1++y.1.put):=⟨B.2,by rw[R.lab,jg d],by grind[Rl.ne],k6,by grind[Rl.hb]⟩;have J:=ih E e ag n _ A R1 (by rw[hd,h]) Y;rw[T.1,T.2.1,k4]at J;exact J.pre (k:=1) ⟨R.ne,e,q,U⟩ Y Y B.2 d
end
end Go.Proofs.YtdeplgkhmebalaaGreatDoor
