/- The program's look at a body: END that may not stand there. -/
import Derived.Test.YtdeplgkhmebalaaGreatDoorP02
import Derived.Laws.EntriesVeiled
import Derived.Lib.BitFns
import Derived.Lib.TrailingZeros
set_option linter.all false
set_option maxHeartbeats 4000000
set_option maxRecDepth 100000
variable{W:Go.World}{n k i b a t j q B d m o p r:Nat}{v u z:Go.Value}{y:Int}{D l:List UInt8}{L:List Int}{F:List Go.Value}{S P R:Nat->Prop}{T:Go.TypeId}
namespace Go.Proofs.YtdeplgkhmebalaaGreatDoor
open Bool renaming false->Yj,true->Yk
open Except renaming error->Ym,ok->Yn
open Go renaming Calls->Yy,Value->Yx,World->Yw
open Go.Ending renaming returned->Yq
open Go.IntKind renaming i64->O,u64->Yr,u8->Ys
open Go.Obj renaming cells->Yl
open Go.Value renaming bool->Yt,int->V,pointer->Yv,slice->Q,tuple->Yu
open Option renaming none->H,some->M
open Or renaming inl->Yo,inr->Yp
open Proofs.Tryz
variable{x f:dQ}{e:dH}
section
open Go.RowKit
section
variable{E:ez}{g N:Nat}{w:World}{s:Bd}
theorem UQ(h:cU E g w s)(z:Sz N s)(S:N<=500000)(j:s.af≠[])(B:nB s (s.af.length-1)=Yj\/(s.top.bq=3/\s.top.aL≠[])):Yy prog 257 #[aj E.bb] w λr a=>Done E w a (cZ s) r/\Kp (fy E.ro) w a:=by
 have T:=Vs.2 j;have a:s.af.length-1<s.af.length:=Y
 have C:=z.st;have D:=z.bl;have l:=jL h j Y;have m:=λW (d:Kp no w W)=>sX (h.quiet d) (k:=s.af.length-1) a (z.aH a) Y
 have p:∀W,Kp no w W->W.cell? ⟨g,(s.af.length-1)*5,H⟩=M (V O s.top.bq)/\ ∃b c,W.cell? ⟨g,(s.af.length-1)*5+1,H⟩=M (Q b s.top.aL.length c):=by
  intro W d;obtain⟨q,r,e,f,-⟩:=h.Jc a;obtain⟨o,n,-,t,-,-⟩:=e W d;obtain⟨b,c,i,-⟩:=f.aJ;rw[i]at n;exact⟨o,b,c,n⟩
 have q:=(z.wt _ a).2.2.1;change s.top.aL.length<=1 at q;generalize s.top.bq=W at *;generalize s.top.aL=F at *;generalize nB s (s.af.length-1)=G at *;cases G with
 |false=>
  go_enter func257,ntmps257;go_wp2_with fail;refine l.bw ?_;rintro r n;have f:=Z (m r n);go_wp2_with fail;refine f.bw ?_;rintro A t;have d:=Z (n.trans t);have u:=Z (ia (h.quiet d));go_wp2_with fail;refine u.mono ?_;rintro e I⟨⟨J,rfl,o,rfl,v,i⟩,x⟩;go_wp2;go_ret;exact⟨⟨aj o,U,o,U,cj d.size,i⟩,(d.trans x).any⟩
 |true=>
  obtain⟨K,y⟩:=B.resolve_left (λe=>by cases e);have L:=Vs.2 y;subst K;go_enter func257,ntmps257;go_wp2_with fail;refine l.bw ?_;rintro r n;have f:=Z (m r n);go_wp2_with fail;refine f.bw ?_;rintro A t;have d:=Z (n.trans t);obtain⟨P,b,c,R⟩:=p A d;have u:=Z (ia (h.quiet d));go_wp2_with fail;refine u.mono ?_;rintro e I⟨⟨J,rfl,o,rfl,v,i⟩,x⟩;go_wp2;go_ret;exact⟨⟨aj o,U,o,U,cj d.size,i⟩,(d.trans x).any⟩
end
section
variable{E:ez}{g N:Nat}{w:World}{s:Bd}
def O2(h:cU E g w s)(z:Sz N s)(c:N<=400000)(a:s.af≠[]):Yy prog 256 #[aj E.bb] w λr b=>Done E w b (iC s) r/\Kp (fy E.ro) w b:=by
 by_cases d:s.top.bq≠3\/nB s (s.af.length-1)=Yj
 .have :iC s=cZ s:=by simp_all[iC]
  grind[RU]
 .refine RV h z Y a ?_ ?_<;>grind
def Sh(h:cU E g w s)(z:Sz N s)(c:N<=400000)(b:s.af≠[]):Yy prog 257 #[aj E.bb] w λr a=>Done E w a (kQ s) r/\Kp (fy E.ro) w a:=by
 by_cases d:nB s (s.af.length-1)=Yj\/(s.top.bq=3/\s.top.aL≠[])
 .have :kQ s=cZ s:=by simp_all[kQ]
  grind[UQ]
 grind[UO]
def O6(h:cU E g w s)(z:Sz N s)(d:N<=400000)(c:s.af≠[])(a:UInt8):Yy prog 255 #[aj E.bb,V Ys a.toNat] w λr b=>Done E w b (lQ E.c a s) r/\Kp (fy E.ro) w b:=by
 grind[OG]
def Done.ret{w:Yw}{m:sU}{r:Ending}(h:Done E w W m r):∃v,r= Yq v:=by
 cases m with
 |ok s=>exact⟨_,h.1⟩
 |error e=>obtain⟨v,h,-⟩:=h;grind
def ED(h:cU E g w s)(z:Sz N s)(e:N<=400000)(a:s.af≠[])(c:UInt8)(d:c∈([0,2,3,4,5,11,12,13,14,15,16,26,27,32,33,34,35,36]:List UInt8)):Yy prog 212 #[aj E.bb,V Ys c.toNat] w λr f=>Done E w f (gV E.c c s) r/\Kp (fy E.ro) w f:=by
 have b:N<=500000:=Y
 have c1:=O6 h z e a c;have c2:=KO h z b a c;have c3:=GH h z b a c;have c4:=GK h z b a c;simp only[Wg,WK,XW]at d;rcases d with rfl |rfl |rfl |rfl |rfl |rfl |rfl |rfl |rfl |rfl |rfl |rfl |rfl |rfl |rfl |rfl |rfl |rfl
 all_goals
  simp only[UInt8.reduceToNat,Wj]at c1 c2 c3 c4⊢;go_enter func212,ntmps212;go_wp2_with fail;first
   |refine c1.mono ?_
   |refine c2.mono ?_
   |refine(c3 Vb).mono ?_
   |refine(c4 Vb).mono ?_
   |refine(Ot h z b).mono ?_
   |refine(O2 h z e a).mono ?_
   |refine(Sh h z e a).mono ?_
   |refine(ur h z e a).mono ?_
   |refine(KN h z b a).mono ?_
   |refine(Ov h z b a).mono ?_
   |refine(Ou h z b a).mono ?_
   |refine(GG h z b a).mono ?_
  rintro r j⟨f,i⟩;obtain⟨v,rfl⟩:=f.ret;go_wp2;go_ret;exact⟨f,i⟩
end
def yc(op:UInt8):Option mQ->Bool
 |none=>Yk
 |some r=>if r.bM=4 then ([0,2,3,4,5,11,12,13,14,15,16,26,27,32,33,34,35,36]:List UInt8).contains op
   else decide (r.bM<=3)&&decide (r.takes.length<=2)&&decide (r.gives.length<=1)
def GY:∀x:Fin 256,yc (UInt8.ofNat x.val) (eu (UInt8.ofNat x.val))=true:=by decide +kernel
def AG(a:UInt8):yc a (eu a)=true:=by
 have:=GY ⟨a.toNat,a.toNat_lt⟩;simp_all
def wL(w:Yw)(X a:Obj):((w.alloc X).alloc a).heap[w.heap.size+1]?=M a:=by
 grind[ai,World.size_alloc]
section
variable{E:ez}{g N:Nat}{w:World}{s:Bd}
def abk{c:Bool}{op:UInt8}(h: ¬(c=Yk/\op≠5/\op≠11)):c=Yj\/c=Yk/\(op==5)=Yk\/c=Yk/\(op==5)=Yj/\(op==11)=true:=by
 grind
theorem Done.up{w w':Yw}{m:sU}{r:Ending}(h:Done E W w' m r)(f:w.heap.size<=W.heap.size):Done E w w' m r:=by
 cases m with
 |ok s=>exact h
 |error e=>obtain⟨v,a,b,c,i,d⟩:=h;exact⟨v,a,b,c,Y,d⟩
def O8(h:cU E g w s)(hR:eN w E.ro)(z:Sz N s)(hN:N<=400000)(y:s.af≠[]):Calls prog 179 #[aj E.bb] w λr a=>Done E w a (dK E.c s) r/\Kp (fy E.ro) w a:=by
 obtain⟨t,k0⟩:=RQ h s.i;have A:=BZ h.rd;have k:=Dz t.rd;simp only at k;obtain⟨sv,kc,B,-⟩:=h.gG;obtain⟨hc,hf⟩:=ae B;obtain⟨h8,h9,l,-⟩:=t.gG;obtain⟨X,h0⟩:=ae l;obtain⟨-,-,h1,-,-⟩:=h.Ar;have L:=h.dV k0;have h2:=hR.kp L;clear B;change Hid _ at l;go_enter func179,ntmps179;go_wp2_with fail;refine A.cJ ?_;go_wp2_with fail;generalize World.setCell w ⟨E.bb,6,none⟩ (.int .i64 s.i)=w2 at *;refine k.mono ?_;cases P:fc E.c.D s.i with
 |error e=>
  rintro r w3⟨⟨c,j,rfl,⟨b,rfl,d,a⟩,f⟩,n⟩;clear f;change Hid _ at a;go_wp2;go_ret;unfold dK;rw[P];exact⟨⟨aj b,U,b,U,cj L.size,a⟩,L.trans (t.jF n)⟩
 |ok x=>
  obtain⟨a,j⟩:=x;rintro r w3⟨⟨v,rfl,rfl,h3⟩,C⟩;have h3:=t.read C h3;have D:=L.trans (t.jF C);have d:=Z (C.az l h1);have F:=OC (h2.kp (t.jF C)) a;have z1:Sz N {s with pos:=s.i,i:=j}:=z.read j s.i s.aR;have n:=AG a;have q5:((a.toNat:Int) !=5)= !(a==5):=mY a 5;have G:((a.toNat:Int) !=11)= !(a==11):=mY a 11;clear hc hf X h0 A k;go_wp2_with fail;refine F.mono ?_;cases R:eu a with
  |none=>
   rintro r S⟨rfl,f⟩;obtain⟨h4,h5⟩:=ae (f.az d id);have I:=D.trans f.any;have h6:=au (f.az d id);simp only[mR,fz,nG];go_wp2_with fail;refine(gS _ _).cJ ?_;go_wp2;go_ret;unfold dK;rw[P];simp only[R];exact⟨⟨_,U,⟨_,U,by have:=I.size;simp;omega,wL _ _ _⟩⟩,(I.alloc _).alloc _⟩
  |some rr=>
   rintro r S⟨rfl,f⟩;obtain⟨u,up,b,tk,gv⟩:=rr;rw[R]at n;obtain⟨h4,h5⟩:=ae (f.az d id);have h6:=au (f.az d id);have I:=(D.trans f.any).alloc (.cells #[.int .u8 u.toNat,.int .u8 up.toNat,.int .i64 b,.string ⟨tk.toArray⟩,.string ⟨gv.toArray⟩] 329);have h7:=(h3.quiet f).quiet ((Kp.refl no S).alloc (.cells #[.int .u8 u.toNat,.int .u8 up.toNat,.int .i64 b,.string ⟨tk.toArray⟩,.string ⟨gv.toArray⟩] 329));have hz:=I.size;have T:dK E.c s=if s.aR=true/\a≠5/\a≠11 then .error (3,s.i)else if b=4 then gV E.c a {s with pos:=s.i,i:=j}else iZ E.c a ⟨u,up,b,tk,gv⟩ {s with pos:=s.i,i:=j}:=by
    unfold dK;rw[P];simp only[R]
   simp only[mR,fz];have fW:∀{m:sU} {W:World},dK E.c s=m-> ∀r,Done E (S.alloc (.cells #[.int .u8 u.toNat,.int .u8 up.toNat,.int .i64 b,.string ⟨tk.toArray⟩,.string ⟨gv.toArray⟩] 329)) W m r->Kp (fy E.ro) (S.alloc (.cells #[.int .u8 u.toNat,.int .u8 up.toNat,.int .i64 b,.string ⟨tk.toArray⟩,.string ⟨gv.toArray⟩] 329)) W->Done E w W (dK E.c s) r/\Kp (fy E.ro) w W:=λe r o J=>⟨e▸o.up hz,I.trans J⟩
   clear F f C P R;change Hid _ at T;by_cases e:s.aR=true/\a≠5/\a≠11
   .have W:(a==5)=false:=by simpa using e.2.1
    have p:(a==11)=false:=by simpa using e.2.2
    have q:=e.1;rw[W]at q5;rw[p]at G;go_wp2_with fail;refine(ia h7).mono ?_;rintro r w5⟨⟨c,rfl,hF⟩,K⟩;go_wp2;go_ret;exact fW (m:=.error (3,s.i)) (by rw[T.out,Vi e]) _ ⟨c,U,hF⟩ K.any
   .rcases abk e with q|⟨q,W⟩|⟨q,W,p⟩
    all_goals
     first |rw[W]at q5|skip
     first |rw[p]at G|skip
     by_cases c:b=4
     .have qb:((b:Int)==4)=true:=by rw[c];rfl
      have K:a∈([0,2,3,4,5,11,12,13,14,15,16,26,27,32,33,34,35,36]:List UInt8):=by simpa[yc,c]using n
      change Hid _ at c;go_wp2_with fail;refine(ED h7 z1 hN y a K).mono ?_;rintro r w5⟨o,J⟩;obtain⟨v,rfl⟩:=o.ret;go_wp2;go_ret;exact fW (by rw[T.out,Va e,Vi c.out]) _ o J
     .have qb:((b:Int)==4)=false:=Vd
      have K:b<=3/\tk.length<=2/\gv.length<=1:=by simpa[yc,c,and_assoc]using n
      go_wp2_with fail;refine(GV h7 z1 Y y a ⟨u,up,b,tk,gv⟩ (by show b=0\/b=1\/b=2\/b=3;omega) K.2.1 K.2.2).mono ?_;rintro r w5⟨o,J⟩;obtain⟨v,rfl⟩:=o.ret;go_wp2;go_ret;exact fW (by rw[T.out,Va e,Va c]) _ o J
end
section
variable{N:Nat}{s s1:Bd}{c:nt}
theorem jc{s a:Bd}(h:iJ s a):a.i=s.i/\a.af=s.af/\a.ao=s.ao:=by
 obtain⟨l,rfl,-⟩:=h;simp
theorem CG(a:UInt8)(k:Nat):(bu s a k).i=s.i:=by unfold bu;split <;>rfl
def Lf(l:List Nat):∀{s:Bd},Sz N s->Sz N (cC l s):=by
 induction l with
 |nil=>intro s z;exact z
 |cons a l ih=>intro s z;exact ih (GF z a)
def Lh(z:Sz N s)(h:I2 s= Yn s1):Sz (N+1) s1/\s.i<=s1.i:=by
 cases h;exact⟨(ik z _).read s.i s.pos Yk,cQ⟩
def EE{t:UInt8}(h:bP D l i= Yn (t,j)):j=i+1/\t∈l:=by
 unfold bP fc at h;grind
def Si(z:Sz N s)(b:Bk)(x:dQ)(p:s.af.length<=16)(i:b.aH=s.stack.length)(r:b.start=s.ao.length+1)(t:b.aL.length<=1)(u:b.waits=[]):
  Sz (N+1) {bo s x with af:=s.af++[b]}:=by
 have d:∀j,Bd.bk {bo s x with af:=s.af++[b]} j=if j<s.af.length then s.bk j else if j=s.af.length then b else lO:=by
  intro j;show(s.af++[b]).getD j lO=_
  rw[List.getD];split
  .rename_i h;rw[VC h];rfl
  grind
 have e:(bo s x).ao.length=s.ao.length+1:=by simp[bo]
 have h:=z.st;have l:=z.cd;refine⟨Vd,by show s.stack.length<=N+1;omega,Ve,?_,?_,?_⟩
 .unfold Bd.top;rw[d];simp only[Vn,Wi,Wp];rw[Va Y,Vi Y,i];exact VP _
 .intro j k f g;simp only[Vn,Wi,Wp]at g;rw[d,d];by_cases a:k<s.af.length
  .rw[Vi a,Vi Y];exact z.mono j k f a
  .rw[Va a,Vi (show k=s.af.length by omega)];by_cases n:j<s.af.length
   .rw[Vi n,i];grind[Sz.aH]
   grind
 .intro k g;simp only[Vn,Wi,Wp]at g;rw[d];show _/\_/\_/\(∀n∈_,n<(bo s x).ao.length)/\(_->_/\_<=(bo s x).ao.length)
  rw[e];by_cases a:k<s.af.length
  .rw[Vi a];have:=z.wt k a;grind
  grind
def Li(z:Sz N s)(e:UInt8)(h:lQ c e s= Yn s1):Sz (N+1) s1/\s.i<=s1.i:=by
 unfold lQ at h;split at h
 .cases h
 .rename_i t j f;have i:=EE f;split at h
  .cases h
  .rename_i b a;have d:Sz N b/\b.i=j:=by
    split at a
    .exact⟨fZ (z.read j s.pos s.aR) a,(jc (eA a)).1⟩
    .cases a;exact⟨z.read j s.pos s.aR,U⟩
   split at h
   .cases h
   .rename_i g;cases h;have k:=d.1.bl;refine⟨Si d.1 _ _ Y U U ?_ U,?_⟩
    .grind
    .show s.i<=b.i
     omega
theorem Sj(z:Sz N s)(l:0<s.af.length)(b:Bool):Sz N {s with af:=s.af.set (s.af.length-1) {s.top with bq:=4},stack:=s.stack.take s.top.aH,aR:=b}:=by
 have d:s.af.length-1<s.af.length:=Y
 have g:∀j,Bd.bk {s with af:=s.af.set (s.af.length-1) {s.top with bq:=4},stack:=s.stack.take s.top.aH,aR:=b} j=if s.af.length-1=j then {s.top with bq:=4}else s.bk j:=λj=>Cy d _ j
 have f:∀j,(Bd.bk {s with af:=s.af.set (s.af.length-1) {s.top with bq:=4},stack:=s.stack.take s.top.aH,aR:=b} j).aH=(s.bk j).aH:=by
  intro j;rw[g];split
  .rename_i e;rw[<-e];rfl
  .rfl
 have n:=z.top;have i:=z.st;refine⟨by grind[Sz.bl],Vd,z.cd,?_,?_,?_⟩
 .refine Vk (XG (f _)) ?_;grind
 .intro j k a h;rw[f,f];exact z.mono j k a Ve
 .intro j k;have a:j<s.af.length:=Ve
  rw[g];split
  .rename_i e;subst e;have:=z.wt _ a;exact⟨this.1,this.2.1,this.2.2.1,this.2.2.2.1,λh=>by cases h⟩
  .exact z.wt j a
def Lj(a:s.af≠[])(z:Sz N s)(h:iC s= Yn s1):Sz (N+1) s1/\s.i<=s1.i:=by
 have d:=Vs.2 a;have b:s.af.length-1<s.af.length:=Y
 unfold iC at h;split at h
 .cases h
 grind[qE,GF,CG,dZ,nH,Sj]
theorem UX(z:Sz N s)(i:0<s.af.length)(a:List UInt8)(l:a.length<=1)(g:Bool):Sz (N+1) {s with stack:=s.stack.take s.top.aH++a,af:=s.af.take (s.af.length-1),aR:=g}:=by
 have e:∀j,j<s.af.length-1->Bd.bk {s with stack:=s.stack.take s.top.aH++a,af:=s.af.take (s.af.length-1),aR:=g} j=s.bk j:=by
  intro j b;show(s.af.take (s.af.length-1)).getD j lO=s.af.getD j lO
  grind
 have b:(s.af.take (s.af.length-1)).length=s.af.length-1:=Vc
 have n:=z.top;have h:=z.st;refine⟨by grind[Sz.bl],Vd,WG z.cd,?_,?_,?_⟩
 .by_cases d:s.af.length-1=0
  .show((s.af.take (s.af.length-1)).getD ((s.af.take (s.af.length-1)).length-1) lO).aH<=_
   grind[lO]
  .refine Vk (XG (Vy Bk.aH (e _ Ve))) ?_;simp only[b];have:=z.mono (s.af.length-1-1) (s.af.length-1) Y Y;have f:(s.bk (s.af.length-1)).aH=s.top.aH:=rfl;simp;omega
 .intro j k f d;simp only[b]at d;rw[e j Y,e k d];exact z.mono j k f Y
 .intro k d;simp only[b]at d;rw[e k d];have:=z.wt k Y;grind
def O9(b:s.af≠[])(z:Sz N s)(h:kQ s= Yn s1):Sz (N+2) s1/\s.i<=s1.i:=by
 have k:=Vs.2 b;have d:s.af.length-1<s.af.length:=Y
 have e:=(z.wt _ d).2.2.1;change s.top.aL.length<=1 at e;unfold kQ at h;split at h
 .cases h
 .simp only at h;have j:Sz N (if s.top.bq=3 then dZ s (s.top.start-1)else s):=by
   grind[GF]
  have e1:(if s.top.bq=3 then dZ s (s.top.start-1)else s).stack=s.stack/\(if s.top.bq=3 then dZ s (s.top.start-1)else s).af=s.af/\(if s.top.bq=3 then dZ s (s.top.start-1)else s).i=s.i:=by
   split
   .exact⟨U,U,U⟩
   simp
  generalize(if s.top.bq=3 then dZ s (s.top.start-1)else s)=f at *;have l:=Lf s.top.waits j;obtain⟨g,i,-,a4,-,-⟩:=mq s.top.waits f;rw[e1.1]at g;rw[e1.2.1]at i;rw[e1.2.2]at a4;generalize cC s.top.waits f=a at *;have m:Sz (N+1) (if s.top.bq=0 then bo a ⟨11,0,0,0,0⟩else a):=by
   grind[ik,Sz.le]
  have e3:(if s.top.bq=0 then bo a ⟨11,0,0,0,0⟩else a).stack=s.stack/\(if s.top.bq=0 then bo a ⟨11,0,0,0,0⟩else a).af=s.af/\(if s.top.bq=0 then bo a ⟨11,0,0,0,0⟩else a).i=s.i:=by
   split
   .exact⟨g,i,a4⟩
   grind
  generalize(if s.top.bq=0 then bo a ⟨11,0,0,0,0⟩else a)=sc at *;have n:sc.top=s.top:=by show sc.af.getD (sc.af.length-1) lO=s.af.getD (s.af.length-1) lO;rw[e3.2.1]
  grind[UX]
end
section
variable{N:Nat}{s s1:Bd}{c:nt}
def yd(a:s.af≠[])(z:Sz N s)(h:bf c s= Yn (k,s1)):Sz N s1/\s.i<=s1.i/\k<s1.af.length/\s1.af=s.af:=by
 unfold bf at h;split at h
 .cases h
 .rename_i n j b;cases h;have:=cz b;exact⟨z.read j s.pos s.aR,Ve,Ve,U⟩
def EF(a:s.af≠[])(z:Sz N s)(e:UInt8)(h:iW c e s= Yn s1):Sz (N+1) s1/\s.i<=s1.i:=by
 unfold iW at h;split at h
 .cases h
 .rename_i k d f;obtain⟨n,g,i,j⟩:=yd a z f;split at h
  .cases h
  .rename_i b l;have m:Sz N b/\b.i=d.i/\b.af=d.af:=by
    split at l
    .grind[fZ,jc,eA]
    grind
   split at h
   .cases h
   grind[jb,jc,qE,CG,Sz.read]
def GZ(e:s.af≠[])(z:Sz N s)(h:mP s= Yn s1):Sz (N+1) s1/\s.i<=s1.i:=by
 unfold mP at h;split at h
 .cases h
 .rename_i a f;obtain⟨g,d⟩:=jb z f;have b:0<a.af.length:=by rw[(jc d).2.1];grind
  cases h;refine⟨(qE g 12 b).read (bu a 12 0).i (bu a 12 0).pos _,?_⟩;show s.i<=(bu a 12 0).i
  rw[CG,(jc d).1];omega
def EG(n:Nat):∀{s s1:Bd} {l:List Nat},s.af≠[]->Sz N s->dN c n s= Yn (l,s1)->Sz N s1/\s.i<=s1.i/\s1.af=s.af/\l.length=n/\ ∀k∈l,k<s.af.length:=by
 induction n with
 |zero=>intro s s1 l a z h;cases h;grind
 |succ n ih=>
  intro s s1 l a z h;rw[dN]at h;split at h
  .cases h
  .rename_i k g b;obtain⟨i,d,e,f⟩:=yd a z b;grind
def CH(l:List Nat):∀{N:Nat} {s:Bd},Sz N s->(∀k∈l,k<s.af.length)->Sz (N+l.length) (cx l s)/\(cx l s).i=s.i:=by
 induction l with
 |nil=>intro N s z _;exact⟨z,U⟩
 |cons a l ih=>
  intro N s z h;have b:=h a (Wy ..);obtain⟨d,e⟩:=ih (qE z 12 b) (λk f=>by grind[nH]);grind[cx,CG,Sz.le]
theorem G0(d:s.af≠[])(z:Sz N s)(h:er c s= Yn s1):Sz (N+18) s1/\s.i<=s1.i:=by
 unfold er at h;split at h
 .cases h
 .rename_i n j f;have g:=cz f;split at h
  .cases h
  .rename_i l B m;obtain⟨o,p,q,r,t⟩:=EG (n+1) (s:={s with i:=j}) d (z.read j s.pos s.aR) m;split at h
   .cases h
   .rename_i C e;have u:=fZ o e;have D:=jc (eA e);split at h
    .cases h
    .rename_i v w;obtain⟨x,y⟩:=jb u w;have A:=jc y;split at h
     .cases h;obtain⟨a,b⟩:=CH l (ik x ⟨14,n,0,0,0⟩) (λk E=>by show k<v.af.length;grind);grind[bo,Sz.read,Sz.le]
     .cases h
def Ll(z:Sz N s)(a:∀k,k<c.funcs.length->(c.funcs.getD k ([],[])).1.length<=8/\(c.funcs.getD k ([],[])).2.length<=1)(h:py c s= Yn s1):Sz (N+2) s1/\s.i<=s1.i:=by
 unfold py at h;split at h
 .cases h
 .rename_i n j d;have e:=cz d;have i:=a n Y;split at h
  .cases h
  .rename_i f b;have g:=jO (z.read j s.pos s.aR) b;have k:=jc (rN _ b);cases h;refine⟨(xR (ik g _) _).le Y,?_⟩;show s.i<=f.i
   grind
def Lm(z:Sz N s)(h:pz s= Yn s1):Sz (N+1) s1/\s.i<=s1.i:=by
 unfold pz at h;split at h
 .cases h
 .rename_i u b a;cases h;exact⟨ik (oh z a) _,by show s.i<=b.i;rw[(jc (ij a)).1];omega⟩
def EH(z:Sz N s)(h:fI s= Yn s1):Sz (N+2) s1/\s.i<=s1.i:=by
 unfold fI at h;split at h
 .cases h
 .rename_i f a;split at h
  .cases h
  .rename_i u g b;split at h
   .cases h
   .rename_i e d;cases h;refine⟨xR (ik (fZ (oh (fZ z a) b) d) _) [u],?_⟩;show s.i<=e.i
    rw[(jc (eA d)).1,(jc (ij b)).1,(jc (eA a)).1];omega
def G1(z:Sz N s)(e:UInt8)(h:eK c e s= Yn s1):Sz (N+2) s1/\s.i<=s1.i:=by
 unfold eK at h;split at h
 .cases h
 .rename_i n j f;have g:=cz f;split at h
  .cases h
  .rename_i a b;have d:Sz N a/\a.i=j:=by
    split at b
    .cases b;exact⟨z.read j s.pos s.aR,U⟩
    .exact⟨fZ (z.read j s.pos s.aR) b,(jc (eA b)).1⟩
   cases h;split
   .exact⟨(ik d.1 _).le Y,by show s.i<=a.i;omega⟩
   .exact⟨xR (ik d.1 _) [_],by show s.i<=a.i;omega⟩
def EI(z:Sz N s)(b:UInt8)(h:dn c b s= Yn s1):Sz (N+2) s1/\s.i<=s1.i:=by
 unfold dn at h;split at h
 .cases h
 .rename_i n j d;have e:=cz d;split at h
  .split at h
   .split at h
    .cases h
    .rename_i f a;cases h;exact⟨(ik (fZ (z.read j s.pos s.aR) a) _).le Y,by show s.i<=f.i;rw[(jc (eA a)).1];grind⟩
   .cases h
  .cases h;exact⟨xR (ik (z.read j s.pos s.aR) _) [_],by show s.i<=j;omega⟩
def Lp(h:eh D b i= Yn (n,j)):i<=j:=by
 unfold eh at h;split at h
 .have :=DB h;omega
 .split at h
  .split at h
   .cases h
   .rename_i a;cases h;have:=zD a;omega
  .split at h
   .split at h
    .cases h
    .rename_i a;cases h;have:=zF a;omega
   grind
def G2(z:Sz N s)(d:UInt8)(r:mQ)(g:r.gives.length<=1)(h:iZ c d r s= Yn s1):Sz (N+2) s1/\s.i<=s1.i:=by
 unfold iZ at h;split at h
 .cases h
 .rename_i n j e;have a:=Lp e;split at h
  .cases h
  .rename_i f b;cases h;refine⟨(xR (ik (jO (z.read j s.pos s.aR) b) _) _).le Y,?_⟩;show s.i<=f.i
   rw[(jc (rN _ b)).1];exact a
def CI(b:s.af≠[])(z:Sz N s)(e:∀k,k<c.funcs.length->(c.funcs.getD k ([],[])).1.length<=8/\(c.funcs.getD k ([],[])).2.length<=1)(d:UInt8)(h:gV c d s= Yn s1):Sz (N+18) s1/\s.i<=s1.i:=by
 have up:∀{a:Nat},a<=N+18->Sz a s1/\s.i<=s1.i->Sz (N+18) s1/\s.i<=s1.i:=λf a=>⟨a.1.le f,a.2⟩
 unfold gV at h;split at h
 .exact up Y (Lh z h)
 split at h
 .exact up Y (Li z d h)
 split at h
 .exact up Y (Lj b z h)
 split at h
 .exact up Y (O9 b z h)
 split at h
 .exact up Y (EF b z d h)
 split at h
 .grind[G0]
 split at h
 .exact up Y (GZ b z h)
 split at h
 .exact up Y (Ll z e h)
 split at h
 .exact up Y (Lm z h)
 split at h
 .exact up Y (EH z h)
 split at h
 .exact up Y (EI z d h)
 .exact up Y (G1 z d h)
def uP(d:s.af≠[])(z:Sz N s)(e:∀k,k<c.funcs.length->(c.funcs.getD k ([],[])).1.length<=8/\(c.funcs.getD k ([],[])).2.length<=1)(h:dK c s= Yn s1):Sz (N+18) s1/\s.i<s1.i:=by
 unfold dK at h;split at h
 .cases h
 .rename_i f j m;have n:j=s.i+1:=by
   grind[fc]
  have g:=AG f;split at h
  .cases h
  .rename_i r k;rw[k]at g;split at h
   .cases h
   .split at h
    .obtain⟨a,b⟩:=CI (s:={s with pos:=s.i,i:=j}) d (z.read j s.i s.aR) e f h;grind
    .rename_i o;have l:r.gives.length<=1:=by
      simp_all[yc]
     obtain⟨a,b⟩:=G2 (s:={s with pos:=s.i,i:=j}) (z.read j s.i s.aR) f r l h;grind[Sz.le]
end
section
variable{E:ez}{g N:Nat}{w:World}{s:Bd}
def Pb(h:cU E g w s)(G:eN w E.ro)(z:Sz N s)(I:N+18*(E.c.D.length-s.i)<=400000)(F:Nat)(hF:E.c.D.length-s.i<F):Yy prog 145 #[aj E.bb] w λr a=>Done E w a (gw E.c F s) r/\Kp (fy E.ro) w a:=by
 have q:=h.env.res;generalize t:gw E.c F s=R at *;go_enter func145,ntmps145;go_wp2;go_loopg [] F (λk wr=> ∃n j a,cU E n wr j/\Sz a j/\a+18*(E.c.D.length-j.i)<=400000/\E.c.D.length-j.i<k/\Kp (fy E.ro) w wr/\gw E.c k j=R);case atStart=>exact⟨g,s,N,h,z,I,hF,iR,t⟩
 case round=>
  obtain⟨n,j,a,c,D,X,J,d,i⟩:=hrel;obtain⟨f,rfl⟩:∃f,gk=f+1:=⟨gk-1,Y⟩;rw[gw]at i;have u:=Z (G.kp d);obtain⟨o,p,v,-⟩:=c.gG;obtain⟨hc,hf⟩:=ae v;have K:=c.rd.le;by_cases l:j.af=[]
  .rw[Vi l]at i;have x: ¬((0:Int)<(j.af.length:Int)):=by rw[l];simp
   have b:=oY c.rd;have y:=λW (k:Kp no wr W)=>BZ (c.quiet k).rd
   have A:=Z (show ∃o p,wr.heap[E.bb]?=M (eM E n j o p)from by obtain⟨o,p,h,-⟩:=c.gG;exact⟨o,p,h⟩);by_cases hi:j.i<E.c.D.length
   .have e:=i;rw[Vi hi]at e;go_wp2_with fail;refine b.bw ?_;rintro m k;obtain⟨L,P,B⟩:=A;obtain⟨S,T⟩:=ae (k.az B id);have C:=Z (y m k);go_wp2_with fail;refine C.cJ ?_;go_wp2_with fail;refine(gS _ _).cJ ?_;go_wp2;go_ret;rw[<-e];exact⟨⟨aj m.heap.size,U,m.heap.size,U,rq d.size k.size,ai _ _⟩,(d.trans k.any).alloc _⟩
   .have e:=i;rw[Va hi]at e;go_wp2_with fail;refine b.bw ?_;rintro m k;go_wp2;go_ret;rw[<-e];exact⟨⟨U,n,c.quiet k⟩,d.trans k.any⟩
  .rw[Va l]at i;have x:(0:Int)<(j.af.length:Int):=cj (Vs.2 l);have c:=O8 c u D Y l;have y:=λs1=>uP (s1:=s1) l D q
   generalize dK E.c j=b at *;cases b with
   |error e=>
    go_wp2_with fail;refine c.mono ?_;rintro r m⟨⟨L,rfl,B,rfl,C,A⟩,k⟩;go_wp2;go_ret;rw[<-i];exact⟨⟨aj B,U,B,U,cj d.size,A⟩,d.trans k⟩
   |ok s1=>
    obtain⟨A,B⟩:=y s1 U;go_wp2_with fail;refine c.mono ?_;rintro r m⟨⟨rfl,C,e⟩,k⟩;have L:=e.rd.le;go_wp2;go_roundg f;case measure=>omega
    case rel=>exact⟨C,s1,a+18,e,A,Y,Y,d.trans k,i⟩
end
def wM{α:Type}(l:List α)(m:Rd (List α)):Rd (List α):=
 match m with
 | Ym e=> Ym e
 | Yn (l',j)=> Yn (l++l',j)
def tE{a:Type}(m:Rd (List a)):wM [] m=m:=by
 cases m with
 |error e=>rfl
 |ok x=>rfl
def qG{a:Type}(one:Nat->Rd a)(l:List a)(r i:Nat):wM l (cD one (r+1) i)=(match one i with
  | Ym e=> Ym e
  | Yn (x,j)=>wM (l++[x]) (cD one r j)):=by
 grind[cD,wM]
def CJ(w w':Yw)(rb:Nat)(dv:Yx)(D:List UInt8)(m:Rd (List UInt8))(r:Ending):Prop:=
 match m with
 | Yn (l,j)=> ∃v,r= Yq (Yu #[v,Yv H])/\aq w' v l/\(∀b,v.ownBlock=M b->w.heap.size<=b/\b<w'.heap.size)/\kC w' rb dv D j
 | Ym e=> ∃fv,r= Yq (Yu #[Q H 0 0,fv])/\gJ w w' fv e
def oC(h:kC W a u D i)(I:∀b,u.ownBlock=M b->b<W.heap.size)(f:Nat)(hm:f<=40):
  Yy prog 106 #[aj a,V O f] W λr c=>CJ W c a u D (gN D f i) r/\Kp (one a) W c:=by
 have x:gN D f i=(match bp D (f+1) i with
  | Ym e=> Ym e
  | Yn (n,j)=>cD (bP D [127,126]) n j):=rfl
 generalize gN D f i=R at *;have m:=fM h ((f:Int)+1) Y Y;have q:=λn j=>cz (D:=D) (lim:=(f:Int)+1) (i:=i) (n:=n) (j:=j)
 generalize bp D ((f:Int)+1) i=d at *;obtain⟨i0,J,K,L,N⟩:=info_parts lj;have h0:=au h.az;match d,x,m,q with
 | Ym e,x,m,_=>
  go_enter func106,ntmps106;go_wp2_with fail;refine m.mono ?_;rintro r P⟨⟨C,j,rfl,⟨t,rfl,w,g⟩,h1⟩,F⟩;go_wp2;go_ret2;rw[x];exact⟨⟨aj t,U,t,U,w,g⟩,F⟩
 | Yn (n,j),x,m,q=>
  have hn:=(q n j U).1;go_enter func106,ntmps106;go_wp2_with fail;refine m.mono ?_;rintro r P⟨⟨v,rfl,rfl,h1⟩,F⟩;have h3:=F.size;go_wp2;go_loopw [8,23] (λgv o wr=> ∃(k G:Nat) (l:List UInt8),k<=n/\o= V O k/\l.length=k/\wr.ownsRow W.heap.size 5 1 gv k (l.map λc=> V Ys c.toNat)/\Kp (one a) W wr/\kC wr a u D G/\cD (bP D [127,126]) n j=wM l (cD (bP D [127,126]) (n-k) G)) (λ_ o _=>n - (intOf o).toNat);case atStart=>
   exact⟨0,j,[],Y,U,U,⟨U,Yp ⟨P.heap.size,0,#[],U,Y,ai _ _,cQ,by simp[maxLen],U,U⟩⟩,F.alloc _,h1.kp ((Kp.refl no P).alloc _) id (λ_ _ _ h=>h),by rw[tE];rfl⟩
  case round=>
   obtain⟨k,G,l,hk,rfl,s,c,p,z,A⟩:=hrel;obtain⟨h4,h5,rfl⟩:=aA c;have h6:=p.size;by_cases h7:k<n
   .have o:=nA z ⟨#[127,126]⟩ [127,126] U;have y:=A;rw[show n-k=(n-k-1)+1 by omega,qG]at y;generalize bP D [127,126] G=Q2 at *;match Q2,y,o with
    | Ym e,y,o=>
     go_wp2_with fail;refine o.mono ?_;rintro r w2⟨⟨C,j2,rfl,⟨t,rfl,w,g⟩,h2⟩,B⟩;go_wp2;go_ret2;rw[x];show CJ _ _ _ _ _ (cD (bP D [127,126]) n j) _/\_
     rw[y];exact⟨⟨aj t,U,t,U,Y,g⟩,p.trans B⟩
    | Yn (t,j2),y,o=>
     go_wp2_with fail;refine o.mono ?_;rintro r w2⟨⟨v,rfl,rfl,h2⟩,B⟩;have w:=B.own c (λb g (e:b=a)=>cj (aK c b g));have S:=Z (p.trans B);have h8:=B.size;go_wp2_with(at_builtin;refine bj _ U _ _ 25 U W.heap.size 5 i0 (V Ys 0) 1 1 underlying25 J K L N U Vb _ _ _ U (w.alloc _) _ 1 [V Ys t.toNat] U (aw.new _ _ _) (eP U) ?c3 ?c4 ?c5 ?_);case c3=>unfold maxLen;omega
     case c4=>omega
     case c5=>simp;omega
     intro v3 w3 C E h9;obtain⟨k0,k1,rfl⟩:=aA C;have T:=Z ((S.alloc _).bS E (λb g=> Yp (aK w b g)));have X:=Z (h2.kp (((Kp.refl (λb=>W.heap.size<=b) w2).alloc _).bS E (λb g=> Yo (aK w b g))) (λ(e:W.heap.size<=a)=>Y) (λb g k2 (e:W.heap.size<=b)=>cj (I b g)));go_wp2;go_roundw;case rel=>exact⟨k+1,j2,l++[t],Y,by go_num,by simp[s],by simpa using C,T,X,by rw[y,show n - (k+1)=n-k-1 by omega]⟩
     case measure=>simp[intOf];omega
   .obtain rfl :k=n:=Y
    go_wp2;go_ret2;rw[x];show CJ _ _ _ _ _ (cD (bP D [127,126]) k j) _/\_
    rw[A,Wr,cD,wM,VF];have g:=aw.own c;rw[<-s]at g;exact⟨⟨_,U,by rw[<-s];exact g,λb g=>⟨aK c b g,bR c g⟩,z⟩,p⟩
abbrev Pc:=Ty×Yx×Yx
abbrev Pd:=vM×Yx×Yx
def lz(x:Pc):List Value:=[x.2.1,x.2.2]
def Ud(x:Pc):(lz x).length=2:=rfl
def j8(x:UInt8×Bool):List Value:=[V Ys x.1.toNat,Yt x.2]
def abl(x:UInt8×Bool):(j8 x).length=2:=rfl
def j9(x:Pd):List Value:=[x.2.1,x.2.2,V O x.1.aZ,V O x.1.entry]
def Pe(x:Pd):(j9 x).length=4:=rfl
structure l7 where
 i:Nat
 types:List Ty
 eb:List vM
 gl:List (UInt8×Bool)
 dW:List Nat
 bI:Nat
 ao:List dQ
structure iO where
 B:Nat
 C:Nat
 lo:Nat->Prop
 MZ:∀b,lo b->b<C
 hBC:B<=C
 rb:Nat
 kb:Nat
 mb:Nat
 dv:Yx
 D:List UInt8
structure cy(I:iO)(w:Yw)(s:l7)(role:Nat->Nat)(tv gv fv jB cv:Yx)(my:List Pc)(fs:List Pd):Prop where
 base:I.C<=w.heap.size
 rd:kC w I.rb I.dv I.D s.i
 look:w.heap[I.kb]?=M (Yl #[aj I.rb,tv,gv,aj I.mb] 182)
 mod:w.heap[I.mb]?=M (Yl #[fv,jB,V O s.bI,cv] 121)
 types:w.ownsRow I.B 138 2 tv s.types.length (my.flatMap lz)
 bO:w.ownsRow I.B 256 2 gv s.gl.length (s.gl.flatMap j8)
 funcs:w.ownsRow I.B 140 4 fv s.eb.length (fs.flatMap j9)
 dW:w.ownsRow I.B 38 1 jB s.dW.length (s.dW.map λn=> V Yr (n:Nat))
 ao:w.ownsRow I.B 214 5 cv s.ao.length (s.ao.flatMap dQ.cells)
 Lr:s.types=my.map (·.1)
 Lt:s.eb=fs.map (·.1)
 Ue:∀x∈my,aq w x.2.1 x.1.1/\aq w x.2.2 x.1.2
 Dv:∀x∈fs,aq w x.2.1 x.1.typ.1/\aq w x.2.2 x.1.typ.2
 r1:role I.rb=1
 r2:role I.mb=2
 r3:role I.kb=3
 r4:∀b,tv.ownBlock=M b->role b=4
 r5:∀b,gv.ownBlock=M b->role b=5
 r6:∀b,fv.ownBlock=M b->role b=6
 r7:∀b,jB.ownBlock=M b->role b=7
 r8:∀b,cv.ownBlock=M b->role b=8
 Jm:∀x∈my,nS (λb=>role b=0/\b<w.heap.size) x.2.1/\nS (λb=>role b=0/\b<w.heap.size) x.2.2
 AH:∀x∈fs,nS (λb=>role b=0/\b<w.heap.size) x.2.1/\nS (λb=>role b=0/\b<w.heap.size) x.2.2
 low:∀b,I.lo b->role b=0
 CK:∀b,I.dv.ownBlock=M b->I.lo b
 M0:∀x∈my,(∀b,x.2.1.ownBlock=M b->I.B<=b)/\(∀b,x.2.2.ownBlock=M b->I.B<=b)
 Jn:∀x∈fs,(∀b,x.2.1.ownBlock=M b->I.B<=b)/\(∀b,x.2.2.ownBlock=M b->I.B<=b)
def jd(I:iO)(w:Yw)(s:l7):Prop:= ∃role tv gv fv jB cv my fs,cy I w s role tv gv fv jB cv my fs
section
variable{I:iO}{w w':World}{s:l7}{role:Nat->Nat}{tv gv fv jB cv:Value}{my:List Pc}{fs:List Pd}{X:Nat->Prop}
def cy.DV(h:cy I w s role tv gv fv jB cv my fs)(k:Kp (λb=>X (role b)) w w')(c: ¬X 0)(d: ¬X 1):kC w' I.rb I.dv I.D s.i:=
 h.rd.kp k (λa=>d (by rw[<-h.r1];exact a)) (λb e _ a=>c (by rw[<-h.low b (h.CK b e)];exact a))
def cy.ye(h:cy I w s role tv gv fv jB cv my fs)(k:Kp (λb=>X (role b)) w w')(a: ¬X 3):w'.heap[I.kb]?=M (Yl #[aj I.rb,tv,gv,aj I.mb] 182):=k.az h.look (λb=>a (by rw[<-h.r3];exact b))
def cy.nV(h:cy I w s role tv gv fv jB cv my fs)(k:Kp (λb=>X (role b)) w w')(a: ¬X 2):w'.heap[I.mb]?=M (Yl #[fv,jB,V O s.bI,cv] 121):=k.az h.mod (λb=>a (by rw[<-h.r2];exact b))
def cy.pM(h:cy I w s role tv gv fv jB cv my fs)(k:Kp (λb=>X (role b)) w w')(a: ¬X 4):w'.ownsRow I.B 138 2 tv s.types.length (my.flatMap lz):=k.own h.types (λb c d=>a (by rw[<-h.r4 b c];exact d))
def cy.pN(h:cy I w s role tv gv fv jB cv my fs)(k:Kp (λb=>X (role b)) w w')(a: ¬X 5):w'.ownsRow I.B 256 2 gv s.gl.length (s.gl.flatMap j8):=k.own h.bO (λb c d=>a (by rw[<-h.r5 b c];exact d))
def cy.rQ(h:cy I w s role tv gv fv jB cv my fs)(k:Kp (λb=>X (role b)) w w')(a: ¬X 6):w'.ownsRow I.B 140 4 fv s.eb.length (fs.flatMap j9):=k.own h.funcs (λb c d=>a (by rw[<-h.r6 b c];exact d))
def cy.vT(h:cy I w s role tv gv fv jB cv my fs)(k:Kp (λb=>X (role b)) w w')(a: ¬X 7):w'.ownsRow I.B 38 1 jB s.dW.length (s.dW.map λn=> V Yr (n:Nat)):=k.own h.dW (λb c d=>a (by rw[<-h.r7 b c];exact d))
def cy.jD(h:cy I w s role tv gv fv jB cv my fs)(k:Kp (λb=>X (role b)) w w')(a: ¬X 8):w'.ownsRow I.B 214 5 cv s.ao.length (s.ao.flatMap dQ.cells):=k.own h.ao (λb c d=>a (by rw[<-h.r8 b c];exact d))
def cy.CL(h:cy I w s role tv gv fv jB cv my fs)(k:Kp (λb=>X (role b)) w w')(c: ¬X 0):∀x∈my,aq w' x.2.1 x.1.1/\aq w' x.2.2 x.1.2:=λx a=>⟨aw.Uy (h.Ue x a).1 k c (h.Jm x a).1,aw.Uy (h.Ue x a).2 k c (h.Jm x a).2⟩
def cy.zf(h:cy I w s role tv gv fv jB cv my fs)(k:Kp (λb=>X (role b)) w w')(c: ¬X 0):∀x∈fs,aq w' x.2.1 x.1.typ.1/\aq w' x.2.2 x.1.typ.2:=λx a=>⟨aw.Uy (h.Dv x a).1 k c (h.AH x a).1,aw.Uy (h.Dv x a).2 k c (h.AH x a).2⟩
theorem nS.up{e:Nat->Nat}(d:a<=b)(h:nS (λc=>e c=0/\c<a) v):nS (λc=>e c=0/\c<b) v:=λc f=>⟨(h c f).1,Vm (h c f).2 d⟩
def cy.CM(h:cy I w s role tv gv fv jB cv my fs)(k:Kp (λb=>X (role b)) w w'):∀x∈my,nS (λb=>role b=0/\b<w'.heap.size) x.2.1/\nS (λb=>role b=0/\b<w'.heap.size) x.2.2:=λx a=>⟨(h.Jm x a).1.up k.size,(h.Jm x a).2.up k.size⟩
def cy.zg(h:cy I w s role tv gv fv jB cv my fs)(k:Kp (λb=>X (role b)) w w'):∀x∈fs,nS (λb=>role b=0/\b<w'.heap.size) x.2.1/\nS (λb=>role b=0/\b<w'.heap.size) x.2.2:=λx a=>⟨(h.AH x a).1.up k.size,(h.AH x a).2.up k.size⟩
def cy.Lu(h:cy I w s role tv gv fv jB cv my fs)(k:Kp (λb=>X (role b)) w w')(c: ¬X 0):Kp (λb=> ¬I.lo b) w w':=k.mono (λb _ d a=>c (by rw[<-h.low b a];exact d))
def cy.mM(h:cy I w s role tv gv fv jB cv my fs){e:Nat->Nat}(c:∀k,k<w.heap.size->e k=role k):cy I w s e tv gv fv jB cv my fs:=
 ⟨h.base,h.rd,h.look,h.mod,h.types,h.bO,h.funcs,h.dW,h.ao,h.Lr,h.Lt,h.Ue,h.Dv,(c _ (au h.rd.az)).trans h.r1,(c _ (au h.mod)).trans h.r2,(c _ (au h.look)).trans h.r3,
  λb a=>(c b (bR h.types a)).trans (h.r4 b a),λb a=>(c b (bR h.bO a)).trans (h.r5 b a),λb a=>(c b (bR h.funcs a)).trans (h.r6 b a),λb a=>(c b (bR h.dW a)).trans (h.r7 b a),λb a=>(c b (bR h.ao a)).trans (h.r8 b a),
  λx d=>⟨λb a=>⟨(c b ((h.Jm x d).1 b a).2).trans ((h.Jm x d).1 b a).1,((h.Jm x d).1 b a).2⟩,λb a=>⟨(c b ((h.Jm x d).2 b a).2).trans ((h.Jm x d).2 b a).1,((h.Jm x d).2 b a).2⟩⟩,
  λx d=>⟨λb a=>⟨(c b ((h.AH x d).1 b a).2).trans ((h.AH x d).1 b a).1,((h.AH x d).1 b a).2⟩,λb a=>⟨(c b ((h.AH x d).2 b a).2).trans ((h.AH x d).2 b a).1,((h.AH x d).2 b a).2⟩⟩,
  λb a=>(c b (Vm (I.MZ b a) h.base)).trans (h.low b a),h.CK,h.M0,h.Jn⟩
def cy.zU(h:cy I w s role tv gv fv jB cv my fs)(k:Kp (one I.rb) w w')(c:kC w' I.rb I.dv I.D j):cy I w' {s with i:=j} role tv gv fv jB cv my fs:=by
 have a:Kp (λb=>(λr=>r=1) (role b)) w w':=k.mono (λb _ (d:b=I.rb)=>by rw[d];exact h.r1);exact⟨Vk h.base k.size,c,(h.ye (X:=λr=>r=1) a Vb:),(h.nV (X:=λr=>r=1) a Vb:),(h.pM (X:=λr=>r=1) a Vb:),(h.pN (X:=λr=>r=1) a Vb:),(h.rQ (X:=λr=>r=1) a Vb:),(h.vT (X:=λr=>r=1) a Vb:),(h.jD (X:=λr=>r=1) a Vb:),h.Lr,h.Lt,
  h.CL (X:=λr=>r=1) a Vb,h.zf (X:=λr=>r=1) a Vb,h.r1,h.r2,h.r3,h.r4,h.r5,h.r6,h.r7,h.r8,h.CM (X:=λr=>r=1) a,h.zg (X:=λr=>r=1) a,h.low,h.CK,h.M0,h.Jn⟩
def cy.quiet(h:cy I w s role tv gv fv jB cv my fs)(k:Kp no w w'):cy I w' s role tv gv fv jB cv my fs:=by
 have a:=k;exact⟨Vk h.base k.size,(h.DV (X:=λ_=>False) a id id:),(h.ye (X:=λ_=>False) a id:),(h.nV (X:=λ_=>False) a id:),(h.pM (X:=λ_=>False) a id:),(h.pN (X:=λ_=>False) a id:),(h.rQ (X:=λ_=>False) a id:),(h.vT (X:=λ_=>False) a id:),(h.jD (X:=λ_=>False) a id:),h.Lr,h.Lt,
  h.CL (X:=λ_=>False) a id,h.zf (X:=λ_=>False) a id,h.r1,h.r2,h.r3,h.r4,h.r5,h.r6,h.r7,h.r8,h.CM (X:=λ_=>False) a,h.zg (X:=λ_=>False) a,h.low,h.CK,h.M0,h.Jn⟩
end
section
variable{I:iO}{w w':World}{s:l7}
theorem jd.read(h:jd I w s)(k:Kp (one I.rb) w w')(d:kC w' I.rb I.dv I.D j):jd I w' {s with i:=j}:=by
 obtain⟨a,e,gv,f,b,g,c,l,h⟩:=h;exact⟨a,e,gv,f,b,g,c,l,h.zU k d⟩
def jd.quiet(h:jd I w s)(k:Kp no w w'):jd I w' s:=by
 obtain⟨a,d,gv,e,b,f,c,g,h⟩:=h;exact⟨a,d,gv,e,b,f,c,g,h.quiet k⟩
def jd.rd(h:jd I w s):kC w I.rb I.dv I.D s.i:=by
 obtain⟨a,d,gv,e,b,f,c,g,h⟩:=h;exact h.rd
def jd.iF(h:jd I w s)(k:Kp (one I.rb) w w'):Kp (λb=> ¬I.lo b) w w':=by
 obtain⟨c,g,gv,i,d,j,f,l,h⟩:=h;exact k.mono (λb _ (e:b=I.rb) a=>by have:=h.low b a;rw[e,h.r1]at this;cases this)
def jd.kT(h:jd I w s):∃b gv,w.heap[I.kb]?=M (Yl #[aj I.rb,b,gv,aj I.mb] 182)/\I.kb≠I.rb/\I.kb≠I.mb/\I.mb≠I.rb/\(∃c a,b= Q c s.types.length a)/\(∃c a,gv= Q c s.gl.length a):=by
 obtain⟨d,b,gv,i,f,j,g,k,h⟩:=h;refine⟨b,gv,h.look,λe=>?_,λe=>?_,λe=>?_,aA h.types,aA h.bO⟩
 .have :=h.r3;rw[e,h.r1]at this;cases this
 .have :=h.r3;rw[e,h.r2]at this;cases this
 .have :=h.r2;rw[e,h.r1]at this;cases this
end
def eG(I:iO)(w w':Yw)(m:Except (Int×Int) l7)(r:Ending):Prop:=
 match m with
 | Yn s'=>r= Yq (Yv H)/\jd I w' s'
 | Ym e=> ∃fv,r= Yq fv/\gJ w w' fv e
abbrev up(B:Nat):Nat->Prop:=λb=>B<=b
abbrev oX(I:iO):Nat->Prop:=λb=> ¬I.lo b
section
variable{I:iO}{w:World}{s:l7}
def vU(h:jd I w s):Yy prog 81 #[aj I.kb] w λr a=>eG I w a (if s.i<I.D.length then Ym (2,s.i)else Yn s) r/\Kp (oX I) w a:=by
 obtain⟨m,gv,b,g,i,j,-,-⟩:=h.kT;obtain⟨n,o⟩:=ae b;have c:=oY h.rd;have e:=λW (k:Kp no w W)=>BZ (h.quiet k).rd
 by_cases hi:s.i<I.D.length
 .rw[Vi hi];go_enter func81,ntmps81;go_wp2_with fail;refine c.bw ?_;rintro d a;obtain⟨k,l⟩:=ae (a.az b id);have f:=Z (e d a);go_wp2_with fail;refine f.cJ ?_;go_wp2_with fail;refine(gS _ _).cJ ?_;go_wp2;go_ret;exact⟨⟨aj d.heap.size,U,d.heap.size,U,a.size,ai _ _⟩,a.any.alloc _⟩
 .rw[Va hi];go_enter func81,ntmps81;go_wp2_with fail;refine c.bw ?_;rintro d a;go_wp2;go_ret;exact⟨⟨U,h.quiet a⟩,a.any⟩
def jd.tF(h:jd I w s)(n:Nat):jd I (w.setCell ⟨I.mb,2,H⟩ (V O n)) {s with bI:=n}/\Kp (oX I) w (w.setCell ⟨I.mb,2,H⟩ (V O n))/\(∃d a e,w.heap[I.mb]?=M (Yl #[d,a,V O s.bI,e] 121)):=by
 obtain⟨c,g,gv,d,a,e,f,i,h⟩:=h;have k:Kp (λb=>(λr=>r=2) (c b)) w (w.setCell ⟨I.mb,2,H⟩ (V O n)):=Kp.bE (S:=λb=>(λr=>r=2) (c b)) (Kp.refl _ w) (b:=I.mb) h.r2 _ _;refine⟨⟨c,g,gv,d,a,e,f,i,?_⟩,h.Lu (X:=λr=>r=2) k Vb,d,a,e,h.mod⟩;exact⟨Vk h.base k.size,(h.DV (X:=λr=>r=2) k Vb Vb:),(h.ye (X:=λr=>r=2) k Vb:),heap_setCell h.mod _,(h.pM (X:=λr=>r=2) k Vb:),(h.pN (X:=λr=>r=2) k Vb:),(h.rQ (X:=λr=>r=2) k Vb:),(h.vT (X:=λr=>r=2) k Vb:),(h.jD (X:=λr=>r=2) k Vb:),h.Lr,h.Lt,
  h.CL (X:=λr=>r=2) k Vb,h.zf (X:=λr=>r=2) k Vb,h.r1,h.r2,h.r3,h.r4,h.r5,h.r6,h.r7,h.r8,h.CM (X:=λr=>r=2) k,h.zg (X:=λr=>r=2) k,h.low,h.CK,h.M0,h.Jn⟩
def uQ(I:iO)(s:l7):Except (Int×Int) l7:=
 match bp I.D 5 s.i with
 | Ym e=> Ym e
 | Yn (n,j)=> Yn {s with bI:=n,i:=j}
def zh(h:jd I w s):Yy prog 79 #[aj I.kb] w λr a=>eG I w a (uQ I s) r/\Kp (oX I) w a:=by
 have m:uQ I s=(match bp I.D 5 s.i with | Ym e=> Ym e| Yn (n,j)=> Yn {s with bI:=n,i:=j}):=rfl;generalize uQ I s=R at *;obtain⟨S,gv,g,o,K,L,-,-⟩:=h.kT;obtain⟨T,W⟩:=ae g;have f:=fM h.rd 5 Vb Vb;generalize bp I.D 5 s.i=d at *;match d,m,f with
 | Ym e,m,f=>
  go_enter func79,ntmps79;go_wp2_with fail;refine f.mono ?_;rintro r N⟨⟨X,j,rfl,⟨p,rfl,q,t⟩,u⟩,l⟩;obtain⟨x,y⟩:=ae (l.az g o);have z:=Z (h.read l u);obtain⟨-,A,B,C,D,k⟩:=z.tF 0;obtain⟨E,F⟩:=ae k;have G:=Z ((h.iF l).trans A);have v:p≠I.mb:=by have:=au k;obtain⟨-,-,g,-⟩:=h.tF 0;intro e;have P:=h.tF 0;obtain⟨-,-,a,b,c,J⟩:=P;have:=au J;omega
  go_wp2;go_ret;rw[m];exact⟨⟨aj p,U,p,U,q,aB v _ t⟩,G⟩
 | Yn (n,j),m,f=>
  go_enter func79,ntmps79;go_wp2_with fail;refine f.mono ?_;rintro r N⟨⟨v,rfl,rfl,u⟩,l⟩;obtain⟨x,y⟩:=ae (l.az g o);have z:=Z (h.read l u);obtain⟨a,A,B,C,D,k⟩:=z.tF n;obtain⟨E,F⟩:=ae k;have G:=Z ((h.iF l).trans A);go_wp2;go_ret;rw[m];exact⟨⟨U,a⟩,G⟩
end
end
section
open Go.RowKit
open Go.Maps (Keyed)
structure Mc where
 stack:List Int
 aD:List (Nat×Nat×Nat)
 pos:Nat
 aC:Nat
 mem:List UInt8
 gl:List Int
 bG:List (Int×Int)
def fR(c:Nat×Nat×Nat):List Value:=[V O c.1,V O c.2.1,V O c.2.2]
def Jq(c:Nat×Nat×Nat):(fR c).length=3:=rfl
def du:vM:=⟨([],[]),0,0⟩
def hZ(w:Yw)(ro:Nat->Prop)(v:Yx)(fs:List vM):Prop:=
 ∃ad cap,v= Q ad fs.length cap/\fs.length<=cap/\ ∀k,k<fs.length-> ∃a o pv rv,ad=M ⟨a,o,H⟩/\ro a/\w.cell? ⟨a,o+k*4,H⟩=M pv/\w.cell? ⟨a,o+k*4+1,H⟩=M rv/\
  w.cell? ⟨a,o+k*4+2,H⟩=M (V O (fs.getD k du).aZ)/\w.cell? ⟨a,o+k*4+3,H⟩=M (V O (fs.getD k du).entry)/\
  aq w pv (fs.getD k du).typ.1/\nS ro pv/\aq w rv (fs.getD k du).typ.2/\nS ro rv
def mT(w:Yw)(ro:Nat->Prop)(v:Yx)(cs:List dQ):Prop:=
 ∃ad cap,v= Q ad cs.length cap/\cs.length<=cap/\ ∀k,k<cs.length-> ∃a o,ad=M ⟨a,o,H⟩/\ro a/\w.cell? ⟨a,o+k*5,H⟩=M (V Ys (cs.getD k bD).op.toNat)/\w.cell? ⟨a,o+k*5+1,H⟩=M (V Yr (cs.getD k bD).num)/\
  w.cell? ⟨a,o+k*5+2,H⟩=M (V O (cs.getD k bD).goal)/\w.cell? ⟨a,o+k*5+3,H⟩=M (V O (cs.getD k bD).aH)/\w.cell? ⟨a,o+k*5+4,H⟩=M (V O (cs.getD k bD).keep)
def ay(l:List Int):List Value:=l.map λn=> V Yr n
def jP(w:Yw)(v:Yx)(l:List Int):Prop:=aw w v 1 l.length (ay l)
structure LD(w:Yw)(ro:Nat->Prop)(fb:Nat)(t:TypeId)(f:dH)(fv gv cv:Yx):Prop where
 az:w.heap[fb]?=M (Yl #[fv,gv,V O f.bI,cv] t)
 own:ro fb
 funcs:hZ w ro fv f.funcs
 dW:jP w gv (f.globals.map λ(n:Nat)=>((n:Nat):Int))
 Jr:nS ro gv
 ao:mT w ro cv f.ao
def dy(w:Yw)(ro:Nat->Prop)(fb:Nat)(t:TypeId)(f:dH):Prop:= ∃fv gv cv,LD w ro fb t f fv gv cv
theorem aw.ro{w':Yw}(h:aw W v i n F)(a:nS S v)(k:Kp (fy S) W w'):aw w' v i n F:=h.kp k (λb c d=>d (a b c))
theorem hZ.kp{ro:Nat->Prop}{w':Yw}{a:List vM}(h:hZ W ro v a)(k:Kp (fy ro) W w'):hZ w' ro v a:=by
 exact zR
theorem mT.kp{ro:Nat->Prop}{w':Yw}{a:List dQ}(h:mT W ro v a)(k:Kp (fy ro) W w'):mT w' ro v a:=by
 exact zT
theorem LD.kp{ro:Nat->Prop}{w':Yw}{gv:Yx}(h:LD W ro n T e v gv u)(k:Kp (fy ro) W w'):LD w' ro n T e v gv u:=
 ⟨k.az h.az (λa=>a h.own),h.own,h.funcs.kp k,aw.ro h.dW h.Jr k,h.Jr,h.ao.kp k⟩
theorem dy.kp{ro:Nat->Prop}{w':Yw}(h:dy W ro n T e)(k:Kp (fy ro) W w'):dy w' ro n T e:=by
 obtain⟨a,gv,b,h⟩:=h;exact⟨a,gv,b,h.kp k⟩
def gf:Keyed prog 2:=Maps.int_keyed underlying2
def look(m:List (Int×Int))(k:Int):Option Int:=(m.find? λp=>p.1==k).map (·.2)
def LF(D:DataW Unit)(m:List (Int×Int)):Prop:=
 Maps.size D=m.length/\ ∀k,Maps.has D (.int .i64 k)=(look m k).isSome/\D.atKey (.int .i64 k) (.lit (.int .i64 0))=.lit (.int .i64 ((look m k).getD 0))
def fk(w:Yw)(b:Nat)(m:List (Int×Int)):Prop:= ∃D n,w.ownsMap prog 2 (plainElem prog 2) b n D/\n<=1000/\LF D m
theorem fk.kp{w':Yw}{m:List (Int×Int)}(h:fk W b m)(k:Kp S W w')(c: ¬S b):fk w' b m:=by
 obtain⟨D,n,⟨d,a,e,F,f,g⟩,i⟩:=h;exact⟨D,n,⟨d,a,k.az e c,F,f,g⟩,i⟩
theorem fk.lt{m:List (Int×Int)}(h:fk W b m):b<W.heap.size:=by
 obtain⟨D,n,a,c⟩:=h;exact a.lt
structure gX where
 B:Nat
 lo:Nat->Prop
 mb:Nat
 sb:Nat
 kb:Nat
 fb:Nat
 ft:TypeId
 f:dH
 ro:Nat->Prop
abbrev lA(E:gX)(s:Mc)(sv cv:Yx):Obj:= Yl #[aj E.fb,aj E.sb,sv,cv,V O s.pos,V O s.aC] 172
abbrev EW(E:gX)(mv gv:Yx):Obj:= Yl #[mv,gv,.map (M E.kb)] 125
def aP(l:List UInt8):List Value:=l.map λc=> V Ys c.toNat
structure cI(E:gX)(w:Yw)(s:Mc)(role:Nat->Nat)(sv cv mv gv:Yx):Prop where
 base:E.B<=w.heap.size
 mod:dy w E.ro E.fb E.ft E.f
 tH:w.heap[E.mb]?=M (lA E s sv cv)
 st:w.heap[E.sb]?=M (EW E mv gv)
 stack:w.ownsRow E.B 38 1 sv s.stack.length (ay s.stack)
 aD:w.ownsRow E.B 210 3 cv s.aD.length (s.aD.flatMap fR)
 mem:w.ownsRow E.B 5 1 mv s.mem.length (aP s.mem)
 gl:w.ownsRow E.B 38 1 gv s.gl.length (ay s.gl)
 bG:fk w E.kb s.bG
 r1:role E.mb=1
 r2:role E.sb=2
 r3:∀b,sv.ownBlock=M b->role b=3
 r4:∀b,cv.ownBlock=M b->role b=4
 r5:∀b,mv.ownBlock=M b->role b=5
 r6:∀b,gv.ownBlock=M b->role b=6
 r7:role E.kb=7
 low:∀b,E.lo b->role b=0
 zV:∀b,E.lo b->b<w.heap.size
 mW:∀b,E.ro b->E.lo b
abbrev gj(E:gX):Nat->Prop:=λb=> ¬E.lo b
def cg(E:gX)(w:Yw)(s:Mc):Prop:= ∃role sv cv mv gv,cI E w s role sv cv mv gv
section
variable{E:gX}{w w':World}{s:Mc}{role:Nat->Nat}{sv cv mv gv:Value}{X:Nat->Prop}
theorem cI.up(h:cI E w s role sv cv mv gv)(k:Kp (λb=>X (role b)) w w')(a: ¬X 0):Kp (gj E) w w':=k.mono (λb _ d c=>a (by grind[low]))
def cI.nV(h:cI E w s role sv cv mv gv)(k:Kp (λb=>X (role b)) w w')(a: ¬X 0):dy w' E.ro E.fb E.ft E.f:=h.mod.kp (k.mono (λb _ c d=>a (by rw[<-h.low b (h.mW b d)];exact c)))
def cI.Ug(h:cI E w s role sv cv mv gv)(k:Kp (λb=>X (role b)) w w')(a: ¬X 1):w'.heap[E.mb]?=M (lA E s sv cv):=k.az h.tH (λb=>a (by grind[r1]))
def cI.kSt(h:cI E w s role sv cv mv gv)(k:Kp (λb=>X (role b)) w w')(a: ¬X 2):w'.heap[E.sb]?=M (EW E mv gv):=k.az h.st (λb=>a (by grind[r2]))
def cI.lL(h:cI E w s role sv cv mv gv)(k:Kp (λb=>X (role b)) w w')(a: ¬X 3):w'.ownsRow E.B 38 1 sv s.stack.length (ay s.stack):=k.own h.stack (λb c d=>a (by grind[r3]))
def cI.Pv(h:cI E w s role sv cv mv gv)(k:Kp (λb=>X (role b)) w w')(a: ¬X 4):w'.ownsRow E.B 210 3 cv s.aD.length (s.aD.flatMap fR):=k.own h.aD (λb c d=>a (by grind[r4]))
def cI.abq(h:cI E w s role sv cv mv gv)(k:Kp (λb=>X (role b)) w w')(a: ¬X 5):w'.ownsRow E.B 5 1 mv s.mem.length (aP s.mem):=k.own h.mem (λb c d=>a (by grind[r5]))
def cI.kGl(h:cI E w s role sv cv mv gv)(k:Kp (λb=>X (role b)) w w')(a: ¬X 6):w'.ownsRow E.B 38 1 gv s.gl.length (ay s.gl):=k.own h.gl (λb c d=>a (by grind[r6]))
def cI.Uh(h:cI E w s role sv cv mv gv)(k:Kp (λb=>X (role b)) w w')(a: ¬X 7):fk w' E.kb s.bG:=h.bG.kp k (λb=>a (by grind[r7]))
def cI.mM(h:cI E w s role sv cv mv gv){d:Nat->Nat}(c:∀k,k<w.heap.size->d k=role k):cI E w s d sv cv mv gv:=
 ⟨h.base,h.mod,h.tH,h.st,h.stack,h.aD,h.mem,h.gl,h.bG,(c _ (au h.tH)).trans h.r1,(c _ (au h.st)).trans h.r2,
  λb a=>(c b (bR h.stack a)).trans (h.r3 b a),λb a=>(c b (bR h.aD a)).trans (h.r4 b a),λb a=>(c b (bR h.mem a)).trans (h.r5 b a),λb a=>(c b (bR h.gl a)).trans (h.r6 b a),
  (c _ h.bG.lt).trans h.r7,λb a=>(c b (h.zV b a)).trans (h.low b a),h.zV,h.mW⟩
def cI.pn(h:cI E w s role sv cv mv gv)(z:Nat):cI E w s (dC role w.heap.size z) sv cv mv gv:=h.mM (λ_ a=>mi a)
def cI.quiet(h:cI E w s role sv cv mv gv)(k:Kp no w w'):cI E w' s role sv cv mv gv:=by
 have a:=k;exact⟨Vk h.base k.size,h.nV (X:=λ_=>False) a id,(h.Ug (X:=λ_=>False) a id:),(h.kSt (X:=λ_=>False) a id:),(h.lL (X:=λ_=>False) a id:),(h.Pv (X:=λ_=>False) a id:),(h.abq (X:=λ_=>False) a id:),(h.kGl (X:=λ_=>False) a id:),(h.Uh (X:=λ_=>False) a id:),
  h.r1,h.r2,h.r3,h.r4,h.r5,h.r6,h.r7,h.low,λb c=>Vm (h.zV b c) k.size,h.mW⟩
def cI.xj(h:cI E w s role sv cv mv gv){a:Mc}(k:Kp (λb=>(λr=>r=1\/r=3\/r=4) (role b)) w w')(e1:a.mem=s.mem)(e2:a.gl=s.gl)(e3:a.bG=s.bG)
  (c:w'.heap[E.mb]?=M (lA E a v u))(d:w'.ownsRow E.B 38 1 v a.stack.length (ay a.stack))(e:w'.ownsRow E.B 210 3 u a.aD.length (a.aD.flatMap fR))
  (f:∀b,v.ownBlock=M b->role b=3)(g:∀b,u.ownBlock=M b->role b=4):cI E w' a role v u mv gv:=
 ⟨Vk h.base k.size,h.nV (X:=λr=>r=1\/r=3\/r=4) k Vb,c,(h.kSt (X:=λr=>r=1\/r=3\/r=4) k Vb:),d,e,by rw[e1];exact h.abq (X:=λr=>r=1\/r=3\/r=4) k Vb,by rw[e2];exact h.kGl (X:=λr=>r=1\/r=3\/r=4) k Vb,by rw[e3];exact h.Uh (X:=λr=>r=1\/r=3\/r=4) k Vb,
  h.r1,h.r2,f,g,h.r5,h.r6,h.r7,h.low,λb i=>Vm (h.zV b i) k.size,h.mW⟩
def cI.Js(h:cI E w s role sv cv mv gv){s':Mc}{mv' gv':Yx}(k:Kp (λb=>(λr=>r=2\/r=5\/r=6\/r=7) (role b)) w w')(e1:s'.stack=s.stack)(e2:s'.aD=s.aD)(e3:s'.pos=s.pos)(e4:s'.aC=s.aC)
  (a:w'.heap[E.sb]?=M (EW E mv' gv'))(c:w'.ownsRow E.B 5 1 mv' s'.mem.length (aP s'.mem))(d:w'.ownsRow E.B 38 1 gv' s'.gl.length (ay s'.gl))(e:fk w' E.kb s'.bG)
  (f:∀b,mv'.ownBlock=M b->role b=5)(g:∀b,gv'.ownBlock=M b->role b=6):cI E w' s' role sv cv mv' gv':=by
 obtain⟨t,u,p,v,x,y,z⟩:=s';obtain⟨i,j,A,l,m,n,o⟩:=s;simp only at e1 e2 e3 e4;subst e1 e2 e3 e4;exact⟨Vk h.base k.size,h.nV (X:=λr=>r=2\/r=5\/r=6\/r=7) k Vb,(h.Ug (X:=λr=>r=2\/r=5\/r=6\/r=7) k Vb:),a,(h.lL (X:=λr=>r=2\/r=5\/r=6\/r=7) k Vb:),(h.Pv (X:=λr=>r=2\/r=5\/r=6\/r=7) k Vb:),c,d,e,
  h.r1,h.r2,h.r3,h.r4,f,g,h.r7,h.low,λb q=>Vm (h.zV b q) k.size,h.mW⟩
end
section
variable{E:gX}{w w':World}{s:Mc}
def cg.quiet(h:cg E w s)(k:Kp no w w'):cg E w' s:=by
 obtain⟨a,b,c,d,gv,h⟩:=h;exact⟨a,b,c,d,gv,h.quiet k⟩
def gX.plus(E:gX)(P:Nat->Prop):gX:={E with lo:=λb=>E.lo b\/P b}
def cg.guard(h:cg E w s)(k:Kp no w w')(P:Nat->Prop)(d:∀b,P b->w.heap.size<=b/\b<w'.heap.size):cg (E.plus P) w' s:=by
 obtain⟨e,f,g,i,gv,h⟩:=h;have a:=(h.pn 0).quiet k;exact⟨_,f,g,i,gv,a.base,a.mod,a.tH,a.st,a.stack,a.aD,a.mem,a.gl,a.bG,a.r1,a.r2,a.r3,a.r4,a.r5,a.r6,a.r7,
  λb c=>c.elim (a.low b) (λc=>ef (d b c).1),λb c=>c.elim (a.zV b) (λc=>(d b c).2),λb c=> Yo (a.mW b c)⟩
def cg.free(h:cg (E.plus P) w s)(a:∀b,E.ro b->E.lo b):cg E w s:=by
 obtain⟨c,e,f,g,gv,h⟩:=h;exact⟨c,e,f,g,gv,h.base,h.mod,h.tH,h.st,h.stack,h.aD,h.mem,h.gl,h.bG,h.r1,h.r2,h.r3,h.r4,h.r5,h.r6,h.r7,λb d=>h.low b (Yo d),λb d=>h.zV b (Yo d),a⟩
def cg.l8(h:cg E w s):∀b,E.ro b->E.lo b:=by
 obtain⟨a,c,d,e,gv,h⟩:=h;exact h.mW
def dz(k:Kp (gj (E.plus P)) w w'):Kp (gj E) w w':=k.mono (λb _ h a=>h (Yo a))
theorem cg.base(h:cg E w s):E.B<=w.heap.size:=by
 obtain⟨a,b,c,d,gv,h⟩:=h;exact h.base
def cg.mod(h:cg E w s):dy w E.ro E.fb E.ft E.f:=by
 obtain⟨a,b,c,d,gv,h⟩:=h;exact h.mod
end
end
section
open Go.RowKit
def dM(s:Mc)(v:Int):Mc:={s with stack:=s.stack++[v]}
def aU(s:Mc):Int:=s.stack.getD (s.stack.length-1) 0
def aI(s:Mc):Mc:={s with stack:=s.stack.take (s.stack.length-1)}
def lV(s:Mc)(h k:Nat):Mc:={s with stack:=s.stack.take h++s.stack.drop (s.stack.length-k)}
def cE(s:Mc):Nat×Nat×Nat:=s.aD.getD (s.aD.length-1) (0,0,0)
def LG:(Tryz.prog.info? 210).map (λi=>(i.zero,i.size,i.bytes))=M (M (.agg #[V O 0,V O 0,V O 0]),3,24):=Vf
def iq:(Tryz.prog.info? 38).map (λi=>(i.zero,i.size,i.bytes))=M (M (V Yr 0),1,8):=Vf
theorem jt(l:List Int):(ay l).length=l.length:=by simp[ay]
def dX(l:List Int):∀u∈ay l,u.oneCell'=true:=by
 intro u a;obtain⟨c,-,rfl⟩:=Xc.1 a;rfl
def iu(a:Option Addr)(n c m b:Nat):(Value.slice a n c).ownBlock=(Value.slice a m b).ownBlock:=by cases a<;>rfl
def gY{e:Option Addr}(h:W.ownsRow k T i (Q e n b) n F)(f:m<=n):W.ownsRow k T i (Q e m b) m (F.take (m*i)):=by
 obtain⟨s,⟨g,t⟩|⟨j,l,a,o,p,q,u,c,d,v⟩⟩:=h
 .obtain rfl :m=0:=Y
  cases g;exact⟨Vc,Yo ⟨U,U⟩⟩
 .cases o;have r:m*i<=n*i:=Wm _ f;refine⟨Ve,Yp ⟨j,b,a,U,p,q,Y,c,d,?_⟩⟩;grind
section
variable{E:gX}{w:World}{s:Mc}
def cg.open(h:cg E w s):∃f g,w.heap[E.mb]?=some (lA E s f g)/\(∃B n,f=.slice B s.stack.length n/\s.stack.length<=n)/\(∃B n,g=.slice B s.aD.length n/\s.aD.length<=n)/\some E.mb≠f.ownBlock/\some E.mb≠g.ownBlock/\(∀b,f.ownBlock=some b->g.ownBlock≠some b)/\
  w.ownsRow E.B 38 1 f s.stack.length (ay s.stack)/\w.ownsRow E.B 210 3 g s.aD.length (s.aD.flatMap fR)/\E.sb≠E.mb/\
  (∀W d c l,Kp no w W->d.ownsRow E.B 38 1 c l.length (ay l)->W.grownBy d f.ownBlock->(c.ownBlock=f.ownBlock\/c.ownBlock=some W.heap.size)->cg E (d.setCell ⟨E.mb,2,none⟩ c) {s with stack:=l}/\Kp (gj E) w (d.setCell ⟨E.mb,2,none⟩ c))/\
  (∀W d c l,Kp no w W->d.ownsRow E.B 210 3 c l.length (l.flatMap fR)->W.grownBy d g.ownBlock->(c.ownBlock=g.ownBlock\/c.ownBlock=some W.heap.size)->cg E (d.setCell ⟨E.mb,3,none⟩ c) {s with aD:=l}/\Kp (gj E) w (d.setCell ⟨E.mb,3,none⟩ c))/\
  (∀W (p:Nat),Kp no w W->cg E (W.setCell ⟨E.mb,4,none⟩ (.int .i64 p)) {s with pos:=p}/\Kp (gj E) w (W.setCell ⟨E.mb,4,none⟩ (.int .i64 p)))/\
  (∀W (p:Nat),Kp no w W->cg E (W.setCell ⟨E.mb,5,none⟩ (.int .i64 p)) {s with aC:=p}/\Kp (gj E) w (W.setCell ⟨E.mb,5,none⟩ (.int .i64 p)))/\
  (∀W a k v,Kp no w W->f.ownBlock=some a->k<s.stack.length->cg E (W.setCell ⟨a,k,none⟩ (.int .u64 v)) {s with stack:=s.stack.set k v}/\Kp (gj E) w (W.setCell ⟨a,k,none⟩ (.int .u64 v)))/\
  (∀b,E.lo b->some b≠f.ownBlock/\some b≠g.ownBlock/\b≠E.mb):=by
 obtain⟨o,f,g,q,gv,h⟩:=h;have y:some E.mb≠f.ownBlock:=λe=>by grind[cI.r3,cI.r1]
 have C:some E.mb≠g.ownBlock:=λe=>by grind[cI.r4,cI.r1]
 refine⟨f,g,h.tH,(aw.own h.stack).aJ,(aw.own h.aD).aJ,y,C,λb i e=>?_,h.stack,h.aD,λe=>?_,λW d c l j D t z=>?_,λW d c l j D t z=>?_,λW p j=>?_,λW p j=>?_,λW a k v j z m=>?_,λb i=>⟨λe=>?_,λe=>?_,λe=>?_⟩⟩
 .grind[cI.r3,cI.r4]
 .grind[cI.r1,cI.r2]
 .have a:cI E W s _ f g q gv:=(h.quiet j).pn 3;have A:∀b,c.ownBlock=some b->dC o W.heap.size 3 b=3:=by
   intro b i;rcases z with e|e
   .grind[cI.r3]
   simp_all[ef]
  have F:Kp (λb=>(λr=>r=1\/r=3\/r=4) _) W d:=(Kp.refl _ W).bS t (λb i=>.inl (.inr (.inl (a.r3 b i))));have m:Kp _ W (d.setCell ⟨E.mb,2,none⟩ c):=F.bE (.inl a.r1) _ _;have G:d.heap[E.mb]?=some _:=(t.block E.mb (au a.tH) y).trans a.tH;have u:(d.setCell ⟨E.mb,2,none⟩ c).ownsRow E.B 38 1 c l.length _:=((Kp.refl _ d).bK _ _).own D (λb i (e:b=E.mb)=>by grind[cI.r1]);have x:(d.setCell ⟨E.mb,2,none⟩ c).ownsRow E.B 210 3 g s.aD.length (s.aD.flatMap fR):=by
   have I:Kp (λb=>some b=f.ownBlock\/b=E.mb) W (d.setCell ⟨E.mb,2,none⟩ c):=Kp.bE ((Kp.refl _ W).bS t (λb i=>.inl (.inl i.symm))) (.inr U) _ _;grind[Kp.own,cI.aD,cI.r4,cI.r3]
  exact⟨⟨_,c,g,q,gv,a.xj m U U U (heap_setCell G _) u x A a.r4⟩,j.any.trans (a.up (X:=λr=>r=1\/r=3\/r=4) m Vb)⟩
 .have a:cI E W s _ f g q gv:=(h.quiet j).pn 4;have A:∀b,c.ownBlock=some b->dC o W.heap.size 4 b=4:=by
   intro b i;rcases z with e|e
   .grind[cI.r4]
   simp_all[ef]
  have F:Kp (λb=>(λr=>r=1\/r=3\/r=4) _) W d:=(Kp.refl _ W).bS t (λb i=>.inl (.inr (.inr (a.r4 b i))));have m:Kp _ W (d.setCell ⟨E.mb,3,none⟩ c):=F.bE (.inl a.r1) _ _;have G:d.heap[E.mb]?=some _:=(t.block E.mb (au a.tH) C).trans a.tH;have u:(d.setCell ⟨E.mb,3,none⟩ c).ownsRow E.B 210 3 c l.length _:=((Kp.refl _ d).bK _ _).own D (λb i (e:b=E.mb)=>by grind[cI.r1]);have x:(d.setCell ⟨E.mb,3,none⟩ c).ownsRow E.B 38 1 f s.stack.length (ay s.stack):=by
   have I:Kp (λb=>some b=g.ownBlock\/b=E.mb) W (d.setCell ⟨E.mb,3,none⟩ c):=Kp.bE ((Kp.refl _ W).bS t (λb i=>.inl (.inl i.symm))) (.inr U) _ _;grind[Kp.own,cI.stack,cI.r3,cI.r4]
  exact⟨⟨_,f,c,q,gv,a.xj m U U U (heap_setCell G _) x u a.r3 A⟩,j.any.trans (a.up (X:=λr=>r=1\/r=3\/r=4) m Vb)⟩
 .have a:=h.quiet j;have m:Kp (λb=>(λr=>r=1\/r=3\/r=4) _) W (W.setCell ⟨E.mb,4,none⟩ (.int .i64 p)):=(Kp.refl _ W).bE (.inl a.r1) _ _;have c:Kp _ W (W.setCell ⟨E.mb,4,none⟩ (.int .i64 p)):=(Kp.refl _ W).bK _ _;exact⟨⟨o,f,g,q,gv,a.xj m U U U (heap_setCell a.tH _) (c.own a.stack (λb i (e:b=E.mb)=>y Ve)) (c.own a.aD (λb i (e:b=E.mb)=>C Ve)) a.r3 a.r4⟩,j.any.trans (a.up (X:=λr=>r=1\/r=3\/r=4) m Vb)⟩
 .have a:=h.quiet j;have m:Kp (λb=>(λr=>r=1\/r=3\/r=4) _) W (W.setCell ⟨E.mb,5,none⟩ (.int .i64 p)):=(Kp.refl _ W).bE (.inl a.r1) _ _;have c:Kp _ W (W.setCell ⟨E.mb,5,none⟩ (.int .i64 p)):=(Kp.refl _ W).bK _ _;exact⟨⟨o,f,g,q,gv,a.xj m U U U (heap_setCell a.tH _) (c.own a.stack (λb i (e:b=E.mb)=>y Ve)) (c.own a.aD (λb i (e:b=E.mb)=>C Ve)) a.r3 a.r4⟩,j.any.trans (a.up (X:=λr=>r=1\/r=3\/r=4) m Vb)⟩
 .have a:=h.quiet j;obtain⟨B,n,rfl,-⟩:=(aw.own a.stack).aJ;obtain⟨d,t,A,-,-⟩:=a.stack.form Y;cases A;cases z;have m:Kp (λb=>(λr=>r=1\/r=3\/r=4) _) W (W.setCell ⟨d,k,none⟩ (.int .u64 v)):=(Kp.refl _ W).bE (.inr (.inl (a.r3 d U))) _ _;have c:Kp _ W (W.setCell ⟨d,k,none⟩ (.int .u64 v)):=(Kp.refl _ W).bK _ _;have l:=(a.stack.stored k (.int .u64 v)).1;have p:(ay s.stack).set k (.int .u64 v)=ay (s.stack.set k v):=by simp_all[ay]
  rw[p]at l;refine⟨⟨o,_,g,q,gv,a.xj m U U U ?_ Ve (c.own a.aD (λb i (e:b=d)=>by have:=a.r4 b i;rw[e,a.r3 d U]at this;cases this)) a.r3 a.r4⟩,j.any.trans (a.up (X:=λr=>r=1\/r=3\/r=4) m Vb)⟩;exact aB (λe=>y (by rw[e];rfl)) _ a.tH
 .grind[cI.r3,cI.low]
 .grind[cI.r4,cI.low]
 grind[cI.r1,cI.low]
def cg.LH(h:cg E w s):E.mb<w.heap.size:=by
 obtain⟨a,b,c,d,gv,h⟩:=h;exact au h.tH
def gx(h:cg E w s)(v:Int)(z:s.stack.length<=1000000000):
  df 134 #[aj E.mb,V Yr v] w (Yu #[]) λa=>cg E a (dM s v)/\Kp (gj E) w a:=by
 have A:=h.base;have o:=h.LH;obtain⟨B,C,b,⟨D,p,rfl,q⟩,-,n,F,-,e,-,-,f,-⟩:=h.open;obtain⟨r,g,i,j,k⟩:=info_parts iq;obtain⟨G,I⟩:=ae b;clear h;go_enter func134,ntmps134;go_wp2_with(at_builtin;refine bj _ U _ _ 53 U E.B 38 r _ 1 8 underlying53 g i j k U Vb _ s.stack.length _ U (((Kp.refl no w).alloc _).own e bW) _ 1 [V Yr v] U (aw.new _ _ _) (eP U) ?c3 ?c4 ?c5 ?_);case c3=>unfold maxLen;omega
 case c4=>omega
 case c5=>simp;omega
 intro J t c a d;obtain⟨u,x,rfl⟩:=aA c;have l:=(a.cell_far ⟨E.mb,2,H⟩ Vd n);have y:=(a.frozen_far _ Vd n).trans ((ae (ah b)).2 2);rw[(ae (ah b)).1 2]at l;have m:=f _ t _ (s.stack++[v]) ((Kp.refl no w).alloc _) (by simpa[ay]using c) a (by simpa using d);clear c a d;go_wp2;go_end0;exact⟨U,m⟩
def oD{b:Option Addr}(h:W.ownsRow E.B 38 1 (Q b n i) n (ay L))(e:n=L.length)(f:k<n):∃a,b=M ⟨a,0,H⟩/\W.cell? ⟨a,k,H⟩=M (V Yr (L.getD k 0))/\W.frozen? ⟨a,k,H⟩=false:=by
 obtain⟨a,c,d,-,-⟩:=h.form Y;cases d;refine⟨a,U,?_,h.frozenAt _⟩;rw[h.cellAt k Y];grind[ay]
def AK(h:cg E w s)(j:0<s.stack.length)(p:s.stack.length<=1000000000):
  df 73 #[aj E.mb] w (V Yr (aU s)) λa=>cg E a (aI s)/\Kp (one E.mb) w a/\Kp (gj E) w a:=by
 obtain⟨q,r,d,⟨t,e,rfl,l⟩,-,u,x,-,b,-,-,f,-⟩:=h.open;obtain⟨a,rfl,g,n⟩:=oD b U (k:=s.stack.length-1) Y;obtain⟨y,z⟩:=ae d;have i:=f w w (Q _ (s.stack.length-1) e) _ (Kp.refl no w) (by
  have:=gY b (m:=s.stack.length-1) Y;rw[VV,show min (s.stack.length-1) s.stack.length=s.stack.length-1 by omega];simpa[ay]using this) (fY _ _) (Yo U)
 have o:s.stack.getD _ 0=aU s:=rfl;have c:=Z i;rw[o]at g;generalize aU s=v at *;go_enter func73,ntmps73;go_wp2;go_ret;exact⟨U,c.1,(Kp.refl _ _).bK _ _,c.2⟩
def cP(h:cg E w s)(d:0<s.stack.length)(e:s.stack.length<=1000000000):
  df 73 #[aj E.mb] w (V Yr (aU s)) λa=>cg E a (aI s)/\Kp (gj E) w a:=(AK h d e).mono λ_ _ ⟨a,b,_,c⟩=>⟨a,b,c⟩
def jQ{c:Option Addr}(h:W.ownsRow i T 1 (Q c n b) n F)(r:m<=n):aw W (Q (if b=m then c else c.map (·.add m)) (n-m) (b-m)) 1 (n-m) (F.drop m):=by
 have t:=h.1;obtain⟨e,⟨f,u⟩|⟨d,g,j,l,v,y,z,o,p,A⟩⟩:=h
 .cases f;obtain rfl :m=0:=Y
  exact⟨by simp[e],Yo ⟨Vc,U⟩⟩
 .cases l;by_cases a:b=m
  .subst a;obtain rfl :n=b:=Y
   rw[Vi U];refine⟨Ve,Yp ⟨d,0,n-n,U,cQ,λk x q=>?_⟩⟩;grind
  .rw[Va a];refine⟨Ve,Yp ⟨d,m,b-m,?_,Y,λk x q=>?_⟩⟩
   .simp_all[Addr.add_lit]
   grind[World.cell?]
def AL(h:cg E w s){hh:Nat}(X:hh+k<=s.stack.length)(hs:s.stack.length<=1000000000):
  df 198 #[aj E.mb,V O hh,V O k] w (Yu #[]) λb=>cg E b (lV s hh k)/\Kp (gj E) w b:=by
 have hB:=h.base;have D:=h.LH;obtain⟨sv,A,c,⟨l,a,rfl,F⟩,-,B,n2,-,d,-,-,n,-⟩:=h.open;obtain⟨G,r,t,v,x⟩:=info_parts iq;have o:∀W,Kp no w W-> ∀q,W.cell? ⟨E.mb,q,H⟩=#[aj E.fb,aj E.sb,Q l s.stack.length a,A,V O s.pos,V O s.aC][q]? :=λW k=>(ae (k.az c id)).1
 obtain⟨m,C⟩:=bL (s.stack.length-k);have y:m<=s.stack.length:=Y
 have I:IntKind.i64.wrap (s.stack.length - k)=m:=by rw[IntKind.wrap_i64];omega
 have f:=jQ d y;have g:=gY d (m:=hh) Y;have J:hh<=a:=Y
 have z:s.stack.length-m=k:=Y
 have K:hh<=m:=Y
 change Hid _ at C z;clear h d;replace g:=Z g;replace f:=Z f;change Hid _ at o c n;go_enter func198,ntmps198;go_wp2_with fail;refine rj 13 13 (λb=> ∀q,b.cell? ⟨E.mb,q,H⟩=#[aj E.fb,aj E.sb,Q l s.stack.length a,A,V O s.pos,V O s.aC][q]?) ?hS λhS=>?_
 case hS=>exact o _ fL
 refine tj 0 ?_;iterate 12 refine tn ?_
 refine dj ?_;generalize(if a=m then l else Option.map _ l)=L at *;have N:=hS;have P:∀q,w.drew.frozen? ⟨E.mb,q,H⟩=false:=(ae c).2;clear hS;go_wp2_with(at_builtin;go_loud (refine bj _ U _ _ 53 U E.B 38 G _ 1 8 underlying53 r t v x U Vb _ hh _ U (((Kp.refl no w).drew).own g bW) _ _ _ U (aw.kp f ((Kp.refl no w).drew) bW) ?c2 ?c3 ?c4 ?c5 ?_));case c2=>
  intro u b;exact dX _ u (Xr b)
 case c3=>unfold maxLen;omega
 case c4=>omega
 case c5=>simp;omega
 intro W u i b j;rw[iu l hh a s.stack.length a]at b j;obtain⟨R,S,rfl⟩:=aA i;have q:=(b.cell_far ⟨E.mb,2,H⟩ Vd B);have T:=(b.frozen_far _ Vd B).trans (P 2);rw[N 2]at q;have p:=n w.drew u _ _ ((Kp.refl no w).drew) (by
  have e1:(s.stack.take hh++s.stack.drop m).length=hh+(s.stack.length-m):=Vd
  have e2:ay (s.stack.take hh++s.stack.drop m)=(ay s.stack).take hh++(ay s.stack).drop m:=by simp[ay,WB]
  rw[e1,e2];exact i) b j
 clear i b j;change Hid _ at p;go_wp2;go_end0;have e:lV s hh k={s with stack:=s.stack.take hh++s.stack.drop m}:=by unfold lV;rw[C.out]
 rw[e];exact⟨U,p⟩
end
def wV(wd:Bool):Value:= V Yr (if wd then 64 else 32)
def eE(wd:Bool)(n:Int):Int:=if wd then IntKind.u64.wrap n else IntKind.u64.wrap (n*4294967296)/4294967296
def bF(wd:Bool)(n:Int):Int:=if wd then wrap64 (IntKind.u64.wrap n)else wrap64 (IntKind.u64.wrap (n*4294967296))/4294967296
def j4(a:Bool)(n:Int)(b:Yw):fX 174 #[wV a,V Yr n] b (V Yr (eE a n)):=by
 cases a;all_goals
  simp only[wV,Vq,VL,VK];go_enter func174,ntmps174;go_wp2;go_ret;exact⟨U,U⟩
def cW(a:Bool)(n:Int)(b:Yw):fX 175 #[wV a,V Yr n] b (V O (bF a n)):=by
 cases a;all_goals
  simp only[wV,Vq,VL,VK];go_enter func175,ntmps175;go_wp2;go_ret;exact⟨U,U⟩
def Ka(v:Yx)(a b:Int)(c:Yw):fX 226 #[v,V Yr a,V Yr b] c (Yt (a==b)):=by
 go_enter func226,ntmps226;go_wp2;go_ret;exact⟨U,U⟩
def Gd(v:Yx)(a b:Int)(c:Yw):fX 227 #[v,V Yr a,V Yr b] c (Yt (a !=b)):=by
 go_enter func227,ntmps227;go_wp2;go_ret;exact⟨U,U⟩
def Kb(v:Yx)(a b:Int)(c:Yw):fX 229 #[v,V Yr a,V Yr b] c (Yt (decide (a<b))):=by
 go_enter func229,ntmps229;go_wp2;go_ret;exact⟨U,U⟩
def Cg(v:Yx)(a b:Int)(c:Yw):fX 231 #[v,V Yr a,V Yr b] c (Yt (decide (b<a))):=by
 go_enter func231,ntmps231;go_wp2;go_ret;exact⟨U,U⟩
def DX(v:Yx)(a b:Int)(c:Yw):fX 233 #[v,V Yr a,V Yr b] c (Yt (decide (a<=b))):=by
 go_enter func233,ntmps233;go_wp2;go_ret;exact⟨U,U⟩
def Ch(v:Yx)(a b:Int)(c:Yw):fX 235 #[v,V Yr a,V Yr b] c (Yt (decide (b<=a))):=by
 go_enter func235,ntmps235;go_wp2;go_ret;exact⟨U,U⟩
def qp{P:Prop}(h:P:=by
 go_wp2_with fail;refine(h1 _).cJ ?_;go_wp2_with fail;refine(h2 _).mono ?_;rintro e a⟨rfl,rfl⟩;go_wp2;go_ret;exact⟨U,U⟩):P:=h
def wF(c:Bool)(a b:Int)(d:Yw):fX 228 #[wV c,V Yr a,V Yr b] d (Yt (decide (bF c a<bF c b))):=by
 have h1:=λW=>cW c a W
 have h2:=λW=>cW c b W
 generalize bF c a=x at *;generalize bF c b=y at *;generalize wV c=v at *;go_enter func228,ntmps228;exact qp
def rK(c:Bool)(a b:Int)(d:Yw):fX 230 #[wV c,V Yr a,V Yr b] d (Yt (decide (bF c b<bF c a))):=by
 have h1:=λW=>cW c a W
 have h2:=λW=>cW c b W
 generalize bF c a=x at *;generalize bF c b=y at *;generalize wV c=v at *;go_enter func230,ntmps230;exact qp
def sK(c:Bool)(a b:Int)(d:Yw):fX 232 #[wV c,V Yr a,V Yr b] d (Yt (decide (bF c a<=bF c b))):=by
 have h1:=λW=>cW c a W
 have h2:=λW=>cW c b W
 generalize bF c a=x at *;generalize bF c b=y at *;generalize wV c=v at *;go_enter func232,ntmps232;exact qp
def rL(c:Bool)(a b:Int)(d:Yw):fX 234 #[wV c,V Yr a,V Yr b] d (Yt (decide (bF c b<=bF c a))):=by
 have h1:=λW=>cW c a W
 have h2:=λW=>cW c b W
 generalize bF c a=x at *;generalize bF c b=y at *;generalize wV c=v at *;go_enter func234,ntmps234;exact qp
def uA{P:Prop}(h:P:=by
 go_wp2_with fail;refine(h1 _ _).cJ ?_;go_wp2;go_ret2;exact⟨U,U⟩):P:=h
def Nw(c:Bool)(a b:Int)(d:Yw):fX 239 #[wV c,V Yr a,V Yr b] d (Yu #[V Yr (eE c (IntKind.u64.wrap (a+b))),V O 0]):=by
 have h1:=λn W=>j4 c n W
 generalize e:wV c=v at *;go_enter func239,ntmps239;exact uA
def wG(c:Bool)(a b:Int)(d:Yw):fX 240 #[wV c,V Yr a,V Yr b] d (Yu #[V Yr (eE c (IntKind.u64.wrap (a-b))),V O 0]):=by
 have h1:=λn W=>j4 c n W
 generalize e:wV c=v at *;go_enter func240,ntmps240;exact uA
def Ci(c:Bool)(a b:Int)(d:Yw):fX 241 #[wV c,V Yr a,V Yr b] d (Yu #[V Yr (eE c (IntKind.u64.wrap (a*b))),V O 0]):=by
 have h1:=λn W=>j4 c n W
 generalize e:wV c=v at *;go_enter func241,ntmps241;exact uA
def Nx(v:Yx)(a b:Int)(c:Yw):fX 246 #[v,V Yr a,V Yr b] c (Yu #[V Yr (bits BinOp.and IntKind.u64 a b),V O 0]):=by
 go_enter func246,ntmps246;go_wp2;go_ret2;exact⟨U,U⟩
def Ru(v:Yx)(a b:Int)(c:Yw):fX 247 #[v,V Yr a,V Yr b] c (Yu #[V Yr (bits BinOp.or IntKind.u64 a b),V O 0]):=by
 go_enter func247,ntmps247;go_wp2;go_ret2;exact⟨U,U⟩
def Ny(v:Yx)(a b:Int)(c:Yw):fX 248 #[v,V Yr a,V Yr b] c (Yu #[V Yr (bits BinOp.xor IntKind.u64 a b),V O 0]):=by
 go_enter func248,ntmps248;go_wp2;go_ret2;exact⟨U,U⟩
def mN(wd:Bool):Int:=if wd then 9223372036854775808 else 2147483648
def xE(a:Bool)(b:Yw):fX 273 #[wV a] b (V Yr (mN a)):=by
 cases a;all_goals
  simp only[wV,mN,Vq,VL,VK];go_enter func273,ntmps273;go_wp2;go_ret;exact⟨U,U⟩
def Du(wd:Bool)(b:Int):Int:=b.tmod (if wd then 64 else 32)
def sL(a:Bool)(b:Int)(c:Yw):fX 274 #[wV a,V Yr b] c (V Yr (Du a b)):=by
 cases a;all_goals
  simp only[wV,Du,Vq,VL,VK];go_enter func274,ntmps274;go_wp2;go_ret;exact⟨U,U⟩
def xF(v:Yx)(a:Int)(b:Yw):fX 243 #[v,V Yr a,V Yr 0] b (Yu #[V Yr 0,V O 2]):=by
 go_enter func243,ntmps243;go_wp2;go_ret2;exact⟨U,U⟩
def yV(v:Yx)(a b:Int)(c:b≠0)(d:Yw):fX 243 #[v,V Yr a,V Yr b] d (Yu #[V Yr (IntKind.u64.wrap (a.tdiv b)),V O 0]):=by
 have e:(b==0)=false:=by simpa using c
 go_enter func243,ntmps243;go_wp2;go_ret2;exact⟨U,U⟩
def Ge(v:Yx)(a:Int)(b:Yw):fX 245 #[v,V Yr a,V Yr 0] b (Yu #[V Yr 0,V O 2]):=by
 go_enter func245,ntmps245;go_wp2;go_ret2;exact⟨U,U⟩
def Kc(v:Yx)(a b:Int)(c:b≠0)(d:Yw):fX 245 #[v,V Yr a,V Yr b] d (Yu #[V Yr (a.tmod b),V O 0]):=by
 have e:(b==0)=false:=by simpa using c
 go_enter func245,ntmps245;go_wp2;go_ret2;exact⟨U,U⟩
def DY(v:Yx)(a:Int)(b:Yw):fX 244 #[v,V Yr a,V Yr 0] b (Yu #[V Yr 0,V O 2]):=by
 go_enter func244,ntmps244;go_wp2;go_ret2;exact⟨U,U⟩
def qq{P:Prop}(h:P:=by
 go_wp2_with fail;refine(h3 _ _).mono ?_;rintro e a⟨rfl,rfl⟩;go_wp2;go_ret2;exact⟨U,U⟩):P:=h
def Gf(c:Bool)(a b:Int)(f:b≠0)(j:bF c b≠0)(d:Yw):fX 244 #[wV c,V Yr a,V Yr b] d (Yu #[V Yr (eE c (IntKind.u64.wrap ((bF c a).tmod (bF c b)))),V O 0]):=by
 have g:(b==0)=false:=by simpa using f
 have h:=λW=>cW c a W
 have i:=λW=>cW c b W
 have h3:=λn W=>j4 c n W
 generalize bF c a=x at *;generalize bF c b=y at *;generalize wV c=v at *;go_enter func244,ntmps244;go_wp2_with fail;refine(h _).cJ ?_;go_wp2_with fail;refine(i _).mono ?_;rintro e d⟨rfl,rfl⟩;exact qq
def wH(v:Yx)(a:Int)(b:Yw):fX 242 #[v,V Yr a,V Yr 0] b (Yu #[V Yr 0,V O 2]):=by
 go_enter func242,ntmps242;go_wp2;go_ret2;exact⟨U,U⟩
def xG(c:Bool)(a b:Int)(l:b≠0)(o:bF c b≠0)(i: ¬(a=mN c/\bF c b= -1))(d:Yw):fX 242 #[wV c,V Yr a,V Yr b] d (Yu #[V Yr (eE c (IntKind.u64.wrap (wrap64 ((bF c a).tdiv (bF c b))))),V O 0]):=by
 have m:(b==0)=false:=by simpa using l
 have j:=λW=>xE c W
 have k:=λW=>cW c a W
 have g:=λW=>cW c b W
 have h3:=λn W=>j4 c n W
 generalize bF c a=x at *;generalize bF c b=y at *;generalize mN c=z at *;generalize wV c=v at *;by_cases f:a=z
 .have n:(y== -1)=false:=by
   simp only[Vt];exact λe=>i ⟨f,e⟩
  have h:(a==z)=true:=by simpa using f
  clear i f;go_enter func242,ntmps242;go_wp2_with fail;refine(j _).cJ ?_;go_wp2_with fail;refine(g _).mono ?_;rintro e d⟨rfl,rfl⟩;go_wp2_with fail;refine(k _).mono ?_;rintro e d⟨rfl,rfl⟩;go_wp2_with fail;refine(g _).mono ?_;rintro e d⟨rfl,rfl⟩;exact qq
 .have h:(a==z)=false:=by simpa using f
  go_enter func242,ntmps242;go_wp2_with fail;refine(j _).cJ ?_;go_wp2_with fail;refine(k _).cJ ?_;go_wp2_with fail;refine(g _).cJ ?_;go_wp2_with fail;refine(h3 _ _).cJ ?_;go_wp2;go_ret2;exact⟨U,U⟩
def wI(a:Bool)(b:Int)(f:b≠0)(g:bF a b= -1)(c:Yw):fX 242 #[wV a,V Yr (mN a),V Yr b] c (Yu #[V Yr 0,V O 3]):=by
 have h:(b==0)=false:=by simpa using f
 have i:=λW=>xE a W
 have d:=λW=>cW a b W
 rw[g]at d;generalize mN a=z at *;generalize wV a=v at *;go_enter func242,ntmps242;go_wp2_with fail;refine(i _).cJ ?_;go_wp2_with fail;refine(d _).mono ?_;rintro e c⟨rfl,rfl⟩;go_wp2;go_ret2;exact⟨U,U⟩
def Kd(d:Bool)(a b:Int)(c:Nat)(f:Du d b=c)(g:c<64)(h:Yw):fX 249 #[wV d,V Yr a,V Yr b] h (Yu #[V Yr (eE d (IntKind.u64.wrap (a*2^c))),V O 0]):=by
 have e:=λW=>sL d b W
 rw[f]at e;have h3:=λn W=>j4 d n W
 generalize wV d=v at *;go_enter func249,ntmps249;go_wp2_with fail;refine(e _).cJ ?_;exact qq
def Gg(d:Bool)(a b:Int)(c:Nat)(f:Du d b=c)(g:c<64)(h:Yw):fX 251 #[wV d,V Yr a,V Yr b] h (Yu #[V Yr (a/2^c),V O 0]):=by
 have e:=λW=>sL d b W
 rw[f]at e;generalize wV d=v at *;go_enter func251,ntmps251;go_wp2_with fail;refine(e _).cJ ?_;go_wp2;go_ret2;exact⟨U,U⟩
def DZ(d:Bool)(a b:Int)(c:Nat)(h:Du d b=c)(i:c<64)(f:Yw):fX 250 #[wV d,V Yr a,V Yr b] f (Yu #[V Yr (eE d (IntKind.u64.wrap (bF d a/2^c))),V O 0]):=by
 have g:=λW=>sL d b W
 rw[h]at g;have j:=λW=>cW d a W
 have h3:=λn W=>j4 d n W
 generalize bF d a=x at *;generalize wV d=v at *;go_enter func250,ntmps250;go_wp2_with fail;refine(j _).cJ ?_;go_wp2_with fail;refine(g _).mono ?_;rintro e f⟨rfl,rfl⟩;exact qq
def wN(wd:Bool):Nat:=if wd then 64 else 32
def jK(wd:Bool)(a:Int)(c:Nat):Int:=eE wd (bits BinOp.or IntKind.u64 (IntKind.u64.wrap (a*2^c)) (a/2^(wN wd-c)))
def xH(b:Bool)(a:Int)(c:Nat)(p:c<=wN b)(k:Yw):fX 275 #[wV b,V Yr a,V Yr c] k (V Yr (jK b a c)):=by
 have g:=λn W=>j4 b n W
 have h:jK b a c=eE b (bits BinOp.or IntKind.u64 (IntKind.u64.wrap (a*2^c)) (a/2^(wN b-c))):=rfl;generalize jK b a c=R at *;have i:wV b= V Yr (wN b):=by cases b<;>rfl
 rw[i]at g⊢;have j:((wN b:Nat):Int) - (c:Int)=((wN b-c:Nat):Int):=Y
 have f:IntKind.u64.wrap (((wN b:Nat):Int) - (c:Int))=((wN b-c:Nat):Int):=by
  rw[j];have:wN b<=64:=by cases b<;>decide
  rw[IntKind.wrap_u64];omega
 have l:wN b<=64:=by cases b<;>decide
 obtain⟨d,e⟩:=bL (wN b-c);rw[<-e]at f h;have m:d<=64:=Y
 have o:c<=64:=Y
 clear j e i;generalize wN b=n at *;go_enter func275,ntmps275;go_wp2_with fail;refine(g _ _).cJ ?_;go_wp2;go_ret;rw[h];exact⟨U,U⟩
def Aa{P:Prop}(h:P:=by
 go_wp2_with fail;refine(H0.out _).cJ ?_;go_wp2_with fail;refine(H3.out _).mono ?_;rintro e a⟨rfl,rfl⟩;go_wp2;go_ret2;exact⟨U,U⟩):P:=h
def D3(d:Bool)(a b:Int)(c:Nat)(g:Du d b=c)(e:c<=wN d)(i:Yw):fX 252 #[wV d,V Yr a,V Yr b] i (Yu #[V Yr (jK d a c),V O 0]):=by
 have f:=λW=>sL d b W
 rw[g]at f;have h:=λW=>xH d a c e W
 generalize jK d a c=R at *;generalize wV d=v at *;have H0:=Z f;have H3:=Z h;clear f h g;go_enter func252,ntmps252;exact Aa
def D4(e:Bool)(a b:Int)(c:Nat)(j:Du e b=c)(l:c<=wN e)(m:Yw):fX 253 #[wV e,V Yr a,V Yr b] m (Yu #[V Yr (jK e a (wN e-c)),V O 0]):=by
 have g:=λW=>sL e b W
 rw[j]at g;have h:=λW=>xH e a (wN e-c) Y W
 generalize jK e a (wN e-c)=R at *;have k:wV e= V Yr (wN e):=by cases e<;>rfl
 rw[k]at g h⊢;have o:wN e<=64:=by cases e<;>decide
 have i:IntKind.u64.wrap (((wN e:Nat):Int) - (c:Int))=((wN e-c:Nat):Int):=by
  rw[IntKind.wrap_u64];omega
 have H0:=Z g;have H3:=Z h;clear g h j k;obtain⟨d,f⟩:=bL (wN e-c);rw[<-f]at i H3;clear f;generalize wN e=n at *;go_enter func253,ntmps253;exact Aa
def eU(wd:Bool)(k:Nat)(a b:Int):Bool:=
 match k with
 |0=>a==b
 |1=>a !=b
 |2=>decide (bF wd a<bF wd b)
 |3=>decide (a<b)
 |4=>decide (bF wd b<bF wd a)
 |5=>decide (b<a)
 |6=>decide (bF wd a<=bF wd b)
 |7=>decide (a<=b)
 |8=>decide (bF wd b<=bF wd a)
 |_=>decide (b<=a)
def acu(k:Nat):Nat:=match k with
 |0=>226
 |1=>227
 |2=>228
 |3=>229
 |4=>230
 |5=>231
 |6=>232
 |7=>233
 |8=>234
 |_=>235
def ND(d:Bool)(k:Nat)(e:k<10)(a b:Int)(c:Yw):Yy prog (acu k) #[wV d,V Yr a,V Yr b] c λr f=>r= Yq (Yt (eU d k a b))/\f=c:=by
 match k,e with
 |0,_=>exact Ka _ a b c
 |1,_=>exact Gd _ a b c
 |2,_=>exact wF d a b c
 |3,_=>exact Kb _ a b c
 |4,_=>exact rK d a b c
 |5,_=>exact Cg _ a b c
 |6,_=>exact sK d a b c
 |7,_=>exact DX _ a b c
 |8,_=>exact rL d a b c
 |9,_=>exact Ch _ a b c
def Ck(c:Bool)(k:Nat)(f:k<10)(a b:Int)(d:Yw):df 201 #[wV c,V Ys k,V Yr a,V Yr b] d (Yt (eU c k a b)) λg=>Kp no d g:=by
 have e:=λW=>ND c k f a b W
 generalize eU c k a b=R at *;generalize wV c=v at *;change Hid _ at e;go_enter func201,ntmps201;go_upto_region 2 with fail
 rcases(by omega :k=0\/k=1\/k=2\/k=3\/k=4\/k=5\/k=6\/k=7\/k=8\/k=9)with rfl |rfl |rfl |rfl |rfl |rfl |rfl |rfl |rfl |rfl
 all_goals
  go_wp2_with fail;refine(e _).cJ ?_;go_wp2;go_ret;exact⟨U,oO⟩
def bU(wd:Bool)(k:Nat)(a b:Int):Option (Int×Nat):=
 match k with
 |0=>M (eE wd (IntKind.u64.wrap (a+b)),0)
 |1=>M (eE wd (IntKind.u64.wrap (a-b)),0)
 |2=>M (eE wd (IntKind.u64.wrap (a*b)),0)
 |3=>if b=0 then M (0,2)else if bF wd b=0 then H else if a=mN wd/\bF wd b= -1 then M (0,3)else M (eE wd (IntKind.u64.wrap (wrap64 ((bF wd a).tdiv (bF wd b)))),0)
 |4=>if b=0 then M (0,2)else M (IntKind.u64.wrap (a.tdiv b),0)
 |5=>if b=0 then M (0,2)else if bF wd b=0 then H else M (eE wd (IntKind.u64.wrap ((bF wd a).tmod (bF wd b))),0)
 |6=>if b=0 then M (0,2)else M (a.tmod b,0)
 |7=>M (bits BinOp.and IntKind.u64 a b,0)
 |8=>M (bits BinOp.or IntKind.u64 a b,0)
 |9=>M (bits BinOp.xor IntKind.u64 a b,0)
 |10=>if b<0 then H else M (eE wd (IntKind.u64.wrap (a*2^(Du wd b).toNat)),0)
 |11=>if b<0 then H else M (eE wd (IntKind.u64.wrap (bF wd a/2^(Du wd b).toNat)),0)
 |12=>if b<0 then H else M (a/2^(Du wd b).toNat,0)
 |13=>if b<0 then H else M (jK wd a (Du wd b).toNat,0)
 |14=>if b<0 then H else M (jK wd a (wN wd - (Du wd b).toNat),0)
 |_=>H
def aa4(k:Nat):Nat:=match k with
 |0=>239
 |1=>240
 |2=>241
 |3=>242
 |4=>243
 |5=>244
 |6=>245
 |7=>246
 |8=>247
 |9=>248
 |10=>249
 |11=>250
 |12=>251
 |13=>252
 |_=>253
theorem j6{a:Bool}(h: ¬y<0):Du a y=((Du a y).toNat:Int)/\(Du a y).toNat<wN a:=by
 have b:0<=y:=Y
 unfold Du wN;grind
def aa5(a:Bool):wN a<=64:=by cases a<;>decide
def Ki(e:Bool)(k:Nat)(i:k<15)(a b:Int)(d:Yw)(c:bU e k a b=M (y,t)):Yy prog (aa4 k) #[wV e,V Yr a,V Yr b] d λr f=>r= Yq (Yu #[V Yr y,V O t])/\f=d:=by
 have j:=aa5 e;match k,i with
 |0,_=>cases c;exact Nw e a b d
 |1,_=>cases c;exact wG e a b d
 |2,_=>cases c;exact Ci e a b d
 |3,_=>
  simp only[bU]at c;split at c
  .rename_i h;cases c;subst h;exact wH _ a d
  .rename_i h;split at c
   .cases c
   .rename_i g;split at c
    .rename_i f;cases c;rw[f.1];exact wI e b h f.2 d
    .rename_i f;cases c;exact xG e a b h g f d
 |4,_=>
  simp only[bU]at c;split at c
  .rename_i h;cases c;subst h;exact xF _ a d
  .rename_i h;cases c;exact yV _ a b h d
 |5,_=>
  simp only[bU]at c;split at c
  .rename_i h;cases c;subst h;exact DY _ a d
  .rename_i h;split at c
   .cases c
   .rename_i g;cases c;exact Gf e a b h g d
 |6,_=>
  simp only[bU]at c;split at c
  .rename_i h;cases c;subst h;exact Ge _ a d
  .rename_i h;cases c;exact Kc _ a b h d
 |7,_=>cases c;exact Nx _ a b d
 |8,_=>cases c;exact Ru _ a b d
 |9,_=>cases c;exact Ny _ a b d
 |10,_=>
  simp only[bU]at c;split at c
  .cases c
  .rename_i h;cases c;exact Kd e a b _ (j6 h).1 (by grind[j6]) d
 |11,_=>
  simp only[bU]at c;split at c
  .cases c
  .rename_i h;cases c;exact DZ e a b _ (j6 h).1 (by grind[j6]) d
 |12,_=>
  simp only[bU]at c;split at c
  .cases c
  .rename_i h;cases c;exact Gg e a b _ (j6 h).1 (by grind[j6]) d
 |13,_=>
  simp only[bU]at c;split at c
  .cases c
  .rename_i h;cases c;exact D3 e a b _ (j6 h).1 (Xp (j6 h).2) d
 |14,_=>
  simp only[bU]at c;split at c
  .cases c
  .rename_i h;cases c;exact D4 e a b _ (j6 h).1 (Xp (j6 h).2) d
def Cl(c:Bool)(k:Nat)(g:k<15)(a b:Int)(d:Yw)(e:bU c k a b=M (y,t)):df 205 #[wV c,V Ys k,V Yr a,V Yr b] d (Yu #[V Yr y,V O t]) λh=>Kp no d h:=by
 have f:=λW=>Ki c k g a b W e
 generalize wV c=v at *;clear e;change Hid _ at f;go_enter func205,ntmps205;go_upto_region 2 with fail
 rcases(by omega :k=0\/k=1\/k=2\/k=3\/k=4\/k=5\/k=6\/k=7\/k=8\/k=9\/k=10\/k=11\/k=12\/k=13\/k=14)with rfl |rfl |rfl |rfl |rfl |rfl |rfl |rfl |rfl |rfl |rfl |rfl |rfl |rfl |rfl
 all_goals
  go_wp2_with fail;refine(f _).cJ ?_;go_wp2;go_ret2;exact⟨U,oO⟩
section
variable{E:gX}{w:World}{s:Mc}
def EX(_E:gX)(w:Yw)(s:Mc)(g:Nat):Prop:=g<w.heap.size/\w.cell? ⟨g,(s.aD.length-1)*3,H⟩=M (V O (cE s).1)/\w.cell? ⟨g,(s.aD.length-1)*3+1,H⟩=M (V O (cE s).2.1)/\w.cell? ⟨g,(s.aD.length-1)*3+2,H⟩=M (V O (cE s).2.2)
theorem EX.kp(h:EX E w s n)(k:Kp no w W):EX E W s n:=⟨Vm h.1 k.size,k.aY h.2.1,k.aY h.2.2.1,k.aY h.2.2.2⟩
def rU(h:cg E w s)(d:0<s.aD.length)(m:s.aD.length<=16):
  Yy prog 199 #[aj E.mb] w λr e=>(∃g,r= Yq (Yv (M ⟨g,(s.aD.length-1)*3,H⟩))/\EX E w s g)/\Kp no w e:=by
 obtain⟨x,y,f,⟨l,b,rfl,n⟩,⟨o,c,rfl,p⟩,z,A,-,-,a,-,-⟩:=h.open;obtain⟨g,r,t,-,-⟩:=a.form d;cases t;have i:EX E w s g:=by
  have q:s.aD[s.aD.length-1]?=M (cE s):=by
   unfold cE;rw[Vl,Vj Y];rfl
  have k:∀j,j<3->w.cell? ⟨g,(s.aD.length-1)*3+j,H⟩=(fR (cE s))[j]? :=by
   intro j u;rw[a.cellAt ((s.aD.length-1)*3+j) Y,kI Jq s.aD _ j u,q];rfl
  exact⟨bR a U,k 0 Vb,k 1 Vb,k 2 Vb⟩
 have j:∀W,Kp no w W-> ∀q,W.cell? ⟨E.mb,q,H⟩=#[aj E.fb,aj E.sb,Q l s.stack.length b,Q (M ⟨g,0,H⟩) s.aD.length c,V O s.pos,V O s.aC][q]? :=λW k=>(ae (k.az f id)).1
 have u:IntKind.i64.wrap ((s.aD.length:Int)-1)=((s.aD.length-1:Nat):Int):=by rw[IntKind.wrap_i64];omega
 have v:s.aD.length-1<s.aD.length:=Y
 generalize s.aD.length-1=k at *;go_enter func199,ntmps199;go_wp2_with fail;refine rj 12 12 (λe=> ∀q,e.cell? ⟨E.mb,q,H⟩=#[aj E.fb,aj E.sb,Q l s.stack.length b,Q (M ⟨g,0,H⟩) s.aD.length c,V O s.pos,V O s.aC][q]?) ?hS λhS=>?_
 case hS=>exact j _ fL
 refine tj 0 ?_;iterate 11 refine tn ?_
 refine dj ?_;go_wp2;go_ret;exact⟨⟨g,U,i⟩,fL⟩
def G8(h:cg E w s)(a:0<s.aD.length)(b:s.aD.length<=16)(k:(cE s).1+n<=1000000000):
  df 165 #[aj E.mb,V Yr n] w (V O ((cE s).1+n:Nat)) λd=>Kp no w d:=by
 have c:=rU h a b;have m:IntKind.i64.wrap (n:Int)=n:=by rw[IntKind.wrap_i64];omega
 generalize d:(cE s).1=l at *;go_enter func165,ntmps165;go_wp2_with fail;refine c.mono ?_;rintro e o⟨⟨g,rfl,f⟩,i⟩;obtain⟨-,j,-,-⟩:=f.kp i;rw[d]at j;go_wp2;go_ret;exact⟨Vc,i⟩
def oR(s:Mc)(x:dQ):Mc:={lV s ((cE s).2.1+x.aH) x.keep with pos:=x.goal}
def LJ(h:cg E w s)(r:0<s.aD.length)(t:s.aD.length<=16)(F:s.stack.length<=1000000000)(G:(cE s).2.1+x.aH+x.keep<=s.stack.length):
  df 163 #[aj E.mb,.agg #[V O x.goal,V O x.aH,V O x.keep]] w (Yu #[]) λe=>cg E e (oR s x)/\Kp (gj E) w e:=by
 have i:=h.l8;have u:Kp no w ((w.alloc (Yl #[V O x.goal,V O x.aH,V O x.keep] 212)).drew):=MV;have v:=h.guard u (λb=>b=w.heap.size) (λb a=>⟨Y,by rw[a];simp⟩);have c:=rU v r t;have j:=λW (a:Kp no _ W)=>AL (v.quiet a) (hh:=(cE s).2.1+x.aH) (k:=x.keep) G F
 generalize d:(cE s).2.1=y at *;have L:IntKind.i64.wrap ((y:Int)+(x.aH:Int))=((y+x.aH:Nat):Int):=by rw[IntKind.wrap_i64];omega
 clear h v;change Hid _ at j d i u;replace c:=Z c;go_enter func163,ntmps163;go_wp2_with fail;have a:((w.alloc (Yl #[V O x.goal,V O x.aH,V O x.keep] 212)).drew).heap[w.heap.size]?=M (Yl #[V O x.goal,V O x.aH,V O x.keep] 212):=ai _ _;change Hid _ at a;refine rj 11 12 (λe=> ∀q,e.cell? ⟨w.heap.size,q,H⟩=#[V O x.goal,V O x.aH,V O x.keep][q]?) ?hS λhS=>?_
 case hS=>exact(ae a).1
 refine tj 0 ?_;refine tj 1 ?_;refine tj 6 ?_;refine tj 7 ?_;refine tj 9 ?_;refine tj 10 ?_;refine oj 2 λK b=>?_
 refine sc c ?_;rintro e N⟨⟨g,rfl,l⟩,f⟩;refine⟨_,U,b _ _ (ae (f.az a id)).1 (λhS=>?_)⟩;clear b K;simp only[pS];obtain⟨-,-,c1,-⟩:=l.kp f;rw[d.out]at c1;have m:=f.az a id;clear l;change Hid _ at f m;refine tj 3 ?_;refine tj 4 ?_;refine oj 5 λK b=>?_
 go_simp;refine b _ _ hS (λhS=>?_);clear b K;refine tj 8 ?_;refine ej 11 λK b=>?_
 refine sc (j _ f) ?_;rintro e z⟨rfl,D,A⟩;refine⟨_,U,b _ _ ?_⟩;clear b K;refine dj ?_;have n:=A.az m (λh=>h (Yp U));obtain⟨I,-⟩:=ae n;obtain⟨B,C,o,-,-,-,-,-,-,-,-,-,-,p,-⟩:=D.open;have q:z.heap[E.mb]?=M (lA E (lV s (y+x.aH) x.keep) B C):=o;obtain⟨J,K⟩:=ae q;have b:=p z x.goal (Kp.refl no z);clear D o q n p c1 hS;change Hid _ at b A;go_wp2;go_end0;refine⟨U,?_,?_⟩
 .have :=b.1.free i;unfold oR;rw[d.out];exact this
 .exact(u.any.trans f.any).trans (dz (A.trans b.2))
end
section
variable{E:gX}{w:World}{s:Mc}
def pQ(s:Mc):Mc:={lV s (cE s).1 (s.stack.length - (cE s).2.1)with aD:=s.aD.take (s.aD.length-1),pos:=(cE s).2.2}
def Hf(h:cg E w s)(h4:0<s.aD.length)(h5:s.aD.length<=16)(hs:s.stack.length<=1000000000)(h6:(cE s).1<=(cE s).2.1)(h7:(cE s).2.1<=s.stack.length):
  df 164 #[aj E.mb] w (Yu #[]) λr=>cg E r (pQ s)/\Kp (gj E) w r:=by
 have h8:=h.l8;have h9:=rU h h4 h5;have HL:Hid (pQ s={lV s (cE s).1 (s.stack.length - (cE s).2.1)with aD:=s.aD.take (s.aD.length-1),pos:=(cE s).2.2}):=Z U;have y:=λW (f:Kp no w W) (o:Obj)=>h.guard (f.alloc o) (λb=>b=W.heap.size) (λb a=>⟨by rw[a];exact f.size,by rw[a];simp⟩)
 generalize k0:cE s=c at *;obtain⟨n,i,bk⟩:=c;simp only at h6 h7 HL;clear h;go_enter func164,ntmps164;go_wp2_with fail;refine h9.mono ?_;rintro e p⟨⟨g,rfl,z⟩,k1⟩;obtain⟨-,c0,c1,c2⟩:=z.kp k1;simp only[k0]at c0 c1 c2;clear z;go_wp2_with fail;clear c0 c1 c2;have hg:=y p k1 (Yl #[V O n,V O i,V O bk] 210);have A:(p.alloc (Yl #[V O n,V O i,V O bk] 210)).heap[p.heap.size]?=M _:=ai _ _;have f:Kp no w (p.alloc (Yl #[V O n,V O i,V O bk] 210)):=k1.alloc _;have w5:(p.alloc (Yl #[V O n,V O i,V O bk] 210)).heap.size=p.heap.size+1:=Vc
 generalize p.alloc _=W at *;obtain⟨sv,cv,B,⟨ad,k2,rfl,w6⟩,⟨w7,w8,rfl,w9⟩,-,-,-,-,-,-,-,-⟩:=hg.open;have C:W.heap[E.mb]?=M (lA E s _ _):=B;have D:=λa (f:Kp no W a)=>AL (hg.quiet f) (hh:=n) (k:=s.stack.length-i) Y hs
 have e0:IntKind.i64.wrap (s.stack.length - i)=((s.stack.length-i:Nat):Int):=by rw[IntKind.wrap_i64];omega
 obtain⟨S,d⟩:=bL (λr=>(∀q,r.cell? ⟨p.heap.size,q,H⟩=#[V O n,V O i,V O bk][q]?)/\r.cell? ⟨E.mb,2,H⟩=M (Q ad s.stack.length k2):Yw->Prop);have b:∀a,Kp no W a->S a:=λa k=>by rw[d];exact⟨(ae (k.az A id)).1,(ae (k.az C id)).1 2⟩
 have F:=Z b;have G:=Z d;have KW:=Z f;clear hg B C b d f y;refine rj 11 12 (S) ?hS λhS=>?_
 case hS=>exact F _ fL
 have d:=G.out;subst d;refine tj 0 ?_;iterate 10 refine tn ?_
 refine ej 11 λK I=>?_
 refine sc (D _ fL) ?_;rintro e j⟨rfl,w1,k3⟩;refine⟨_,U,I _ _ ?_⟩;clear I K hS F G D;refine dj ?_;have J:=k3.az A (λh=>h (Yp U));obtain⟨k4,-⟩:=ae J;obtain⟨t,k5,L,⟨e1,e2,e3,-⟩,⟨u,l,N,k6⟩,n1,n2,-,-,R,-,-,T,-⟩:=w1.open;have x:j.heap[E.mb]?=M (lA E _ t k5):=L;have k7:(lV s n (s.stack.length-i)).aD=s.aD:=rfl;rw[k7]at N k6;subst N;have X:=λa (f:Kp no j a)=>T a a _ _ f (by
  have:=gY (f.own R bW) (m:=s.aD.length-1) Y;rw[VV,show min (s.aD.length-1) s.aD.length=s.aD.length-1 by omega,uy Jq];exact this) (fY _ _) (Yo (iu _ _ _ _ _))
 have b:∀a,Kp no j a-> ∀q,a.cell? ⟨E.mb,q,H⟩=#[aj E.fb,aj E.sb,t,Q u s.aD.length l,V O s.pos,V O s.aC][q]? :=λa k=>(ae (k.az x id)).1
 have h0:∀a,Kp no j a->a.frozen? ⟨E.mb,3,H⟩=false:=λa k=>(ae (k.az x id)).2 3
 have k8:=h0 _ ((Kp.refl no j).drew);have e4:IntKind.i64.wrap (s.aD.length-1)=((s.aD.length-1:Nat):Int):=by rw[IntKind.wrap_i64];omega
 have e5:s.aD.length-1<=l:=Y
 generalize s.aD.length-1=h1 at *;clear w1 L x R T h0;change Hid _ at k3 b;go_wp2_with fail;refine rj 14 15 (λr=> ∀q,r.cell? ⟨E.mb,q,H⟩=#[aj E.fb,aj E.sb,t,Q u s.aD.length l,V O s.pos,V O s.aC][q]?) ?hS λhS=>?_
 case hS=>exact b _ fL
 refine tj 0 ?_;iterate 13 refine tn ?_
 refine ej 14 λK I=>?_
 go_simp;refine I _ _ ?_;clear I K hS b;refine dj ?_;have a:=X j (Kp.refl no j);change cg _ (World.setCell j ⟨E.mb,3,H⟩ _) _/\Kp _ _ (World.setCell j ⟨E.mb,3,H⟩ _)at a;have w2:=a.1.quiet ((Kp.refl no _).drew);have w4:=a.2.drew;clear a;generalize(World.setCell j _ (Q u h1 l)).drew=w3 at *;have r:=w4.az J (λh=>h (Yp U));obtain⟨e6,-⟩:=ae r;obtain⟨k9,w0,I,-,-,-,-,-,-,-,-,-,-,K,-⟩:=w2.open;have h2:w3.heap[E.mb]?=M (lA E {lV s n (s.stack.length-i)with aD:=s.aD.take h1} k9 w0):=I;obtain⟨e7,e8⟩:=ae h2;have h3:=K w3 bk (Kp.refl no w3);clear w2 I h2 r K k4 k8 X;go_wp2;go_end0;refine⟨U,?_,?_⟩
 .rw[HL.out];exact h3.1.free h8
 .exact(KW.any.drew).trans (dz ((k3.trans w4).trans h3.2))
theorem cg.fn(h:cg E w s)(q:n<E.f.funcs.length):∃d gv e a o b f g i j,w.heap[E.fb]?=M (Yl #[d,gv,V O E.f.bI,e] E.ft)/\d= Q (M ⟨a,o,H⟩) E.f.funcs.length b/\E.f.funcs.length<=b/\E.lo E.fb/\E.lo a/\
  w.cell? ⟨a,o+n*4,H⟩=M (Q f (E.f.funcs.getD n du).typ.1.length g)/\w.cell? ⟨a,o+n*4+1,H⟩=M (Q i (E.f.funcs.getD n du).typ.2.length j)/\
  w.cell? ⟨a,o+n*4+2,H⟩=M (V O (E.f.funcs.getD n du).aZ)/\w.cell? ⟨a,o+n*4+3,H⟩=M (V O (E.f.funcs.getD n du).entry):=by
 have c:=h.l8;obtain⟨d,gv,e,k⟩:=h.mod;obtain⟨A,b,l,m,r⟩:=k.funcs;obtain⟨a,o,B,C,rfl,p,t,u,v,x,y,-,z,-⟩:=r n q;obtain⟨f,g,rfl,-⟩:=y.aJ;obtain⟨i,j,rfl,-⟩:=z.aJ;exact⟨d,gv,e,a,o,b,f,g,i,j,k.az,l,m,c _ k.own,c _ p,t,u,v,x⟩
def cg.acQ(h:cg E w s)(a:E.lo b):b<w.heap.size/\b≠E.mb:=by
 obtain⟨c,d,f,g,gv,h⟩:=h;exact⟨h.zV b a,λe=>by grind[cI.low,cI.r1]⟩
def lW(f:dH)(s:Mc)(n:Nat):Mc:=
 {s with stack:=s.stack++List.replicate ((f.funcs.getD n du).aZ - (f.funcs.getD n du).typ.1.length) 0,aD:=s.aD++[(s.stack.length - (f.funcs.getD n du).typ.1.length,s.stack.length+((f.funcs.getD n du).aZ - (f.funcs.getD n du).typ.1.length),s.pos)],pos:=(f.funcs.getD n du).entry}
def E6(h:cg E w s)(b:s.aD.length=16)(n:Int):
  fX 71 #[aj E.mb,V O n] w (V O 6):=by
 obtain⟨k,l,a,⟨m,c,rfl,d⟩,⟨e,f,rfl,g⟩,-,-,-,-,-,-,-,-⟩:=h.open;obtain⟨i,j⟩:=ae a;rw[b]at i;go_enter func71,ntmps71;go_wp2;go_ret;exact⟨U,U⟩
def yl(h:cg E w s)(hc:s.aD.length<16)(hs:s.stack.length<=1000000000)(hn:n<E.f.funcs.length)(x3:E.f.funcs.length<=1000)(x4:(E.f.funcs.getD n du).typ.1.length<=s.stack.length)(x5:(E.f.funcs.getD n du).typ.1.length<=(E.f.funcs.getD n du).aZ)(x6:(E.f.funcs.getD n du).aZ<=1000):
  df 71 #[aj E.mb,V O n] w (V O 0) λB=>cg E B (lW E.f s n)/\Kp (gj E) w B:=by
 have T:=h.l8;obtain⟨fv,gv,x7,a,o,x8,X,cp,ar,cr,h0,rfl,x9,H0,H1,c0,c1,c2,c3⟩:=h.fn hn;have HE:Hid (lW E.f s n={s with stack:=s.stack++List.replicate _ 0,aD:=s.aD++[(s.stack.length - (E.f.funcs.getD n du).typ.1.length,s.stack.length+((E.f.funcs.getD n du).aZ - (E.f.funcs.getD n du).typ.1.length),s.pos)],pos:=(E.f.funcs.getD n du).entry}):=Z U;generalize lW E.f s n=R at *;generalize E.f.funcs.getD n du=c at *;obtain⟨sv,cv,C,⟨ad,k7,rfl,H2⟩,⟨k8,k9,rfl,H3⟩,-,-,-,-,-,-,-,-⟩:=h.open;obtain⟨hm,w0⟩:=ae C;obtain⟨w1,-⟩:=ae h0;have D:=λ(o:Obj)=>h.guard ((Kp.refl no w).alloc o) (λb=>b=w.heap.size) (λb d=>⟨by rw[d];exact VP _,by rw[d];simp⟩)
 have w2:∀dT q,(w.alloc dT).cell? ⟨E.mb,q,H⟩=#[aj E.fb,aj E.sb,Q ad s.stack.length k7,Q k8 s.aD.length k9,V O s.pos,V O s.aC][q]? :=λdT q=>(ae (ah C)).1 q
 have hB:=h.base;clear h C h0;change Hid _ at D T;go_enter func71,ntmps71;go_wp2_with fail;clear w2 hm w0 w1 c0 c1 c2 c3;have hg:=D (Yl #[Q X c.typ.1.length cp,Q ar c.typ.2.length cr,V O c.aZ,V O c.entry] 140);have y:(w.alloc (Yl #[Q X c.typ.1.length cp,Q ar c.typ.2.length cr,V O c.aZ,V O c.entry] 140)).heap[w.heap.size]?=M _:=ai _ _;have kW:Kp no w (w.alloc (Yl #[Q X c.typ.1.length cp,Q ar c.typ.2.length cr,V O c.aZ,V O c.entry] 140)):=(Kp.refl no w).alloc _;have H4:(w.alloc (Yl #[Q X c.typ.1.length cp,Q ar c.typ.2.length cr,V O c.aZ,V O c.entry] 140)).heap.size=w.heap.size+1:=Vc
 generalize w.alloc _=W at *;obtain⟨i0,w3,w4,w7,w8⟩:=info_parts iq;obtain⟨i1,w9,e0,e3,e4⟩:=info_parts LG;have e5:=hg.base;have H5:=hg.LH;obtain⟨H6,H7,h1,⟨p,r,e6,H8⟩,⟨e7,e8,e9,-⟩,n1,n2,-,z,-,-,F,-,-,-,-,h2⟩:=hg.open;subst e6 e9;have G:W.heap[E.mb]?=M (lA E s _ _):=h1;have h3:=(h2 w.heap.size (Yp U)).1;have s0:IntKind.i64.wrap (c.aZ - c.typ.1.length)=((c.aZ-c.typ.1.length:Nat):Int):=by rw[IntKind.wrap_i64];omega
 obtain⟨m,h4⟩:=bL (c.aZ-c.typ.1.length);have H9:m<=1000:=Y
 have hE:=HE.out;rw[<-h4]at s0 hE;obtain⟨S,d⟩:=bL (λB=>(∀q,B.cell? ⟨w.heap.size,q,H⟩=#[Q X c.typ.1.length cp,Q ar c.typ.2.length cr,V O c.aZ,V O c.entry][q]?)/\(∀q,B.cell? ⟨E.mb,q,H⟩=#[aj E.fb,aj E.sb,Q p s.stack.length r,Q e7 s.aD.length e8,V O s.pos,V O s.aC][q]?):Yw->Prop);have g:∀f,Kp (λb=>M b=(Value.slice p s.stack.length r).ownBlock) W f->S f:=λf k=>by rw[d];exact⟨(ae (k.az y h3)).1,(ae (k.az G n1)).1⟩
 have l:∀f,Kp (λb=>M b=(Value.slice p s.stack.length r).ownBlock) W f->f.frozen? ⟨E.mb,2,H⟩=false:=λf k=>(ae (k.az G n1)).2 2
 have h5:∀f,Kp (λb=>M b=(Value.slice p s.stack.length r).ownBlock) W f->f.heap[w.heap.size]?=M _:=λf k=>k.az y h3
 have I:=Z g;have t:=Z d;have h6:=Z l;clear hg h1 G h2 g d l D HE;change Hid _ at F y;replace z:=Z z;change Hid _ at hE h4 h5;refine rj 12 13 (S) ?hS λhS=>?_
 case hS=>exact I _ fL
 have d:=t.out;subst d;refine tj 0 ?_;iterate 8 refine tn ?_
 refine oj 9 λK j=>?_
 refine iY _ Vg _ _ _ _ Vg E.B 38 i0 _ 8 O O underlying53 underlying3 w3 w4 w7 w8 U U _ s.stack.length _ Vg (((Kp.refl no W).drew).own z bW) m Vg (by unfold maxLen;omega) Y e5 ?_;intro v1 w5 J i u;have s1:Kp (λb=>M b=(Value.slice p s.stack.length r).ownBlock) W w5:=((Kp.refl _ _).drew).bS i (λk e=> Yo e.symm);have s2:=h6 _ s1;refine j _ _ (I _ s1) (λhS=>?_);clear j K;obtain⟨K0,K1,rfl⟩:=aA J;refine tj 10 ?_;refine tj 11 ?_;refine ej 12 λK j=>?_
 go_simp;refine j _ _ ?_;clear j K;refine dj ?_;have h7:=F W.drew w5 _ _ ((Kp.refl no W).drew) (by
  have e1:(s.stack++List.replicate m 0).length=s.stack.length+m:=Vc
  have e2:ay (s.stack++List.replicate m 0)=ay s.stack++List.replicate m (V Yr 0):=by simp[ay]
  rw[e1,e2];exact J) i u
 change cg _ (World.setCell w5 ⟨E.mb,2,H⟩ _) _/\Kp _ _ (World.setCell w5 ⟨E.mb,2,H⟩ _)at h7;obtain⟨h8,x0⟩:=h7;generalize World.setCell w5 _ _=P at *;have h9:=x0.az y (λh=>h (Yp U));have K2:=h8.base;have K3:=h8.LH;have K4:=h8.acQ (Yp U);clear J i u hS I t h6 h5 z F s1 s2;obtain⟨K5,K6,k0,⟨k1,k2,k3,K7⟩,⟨v,x,k4,-⟩,K8,k5,-,-,A,-,-,L,-⟩:=h8.open;have s3:({s with stack:=s.stack++List.replicate m 0}:Mc).stack.length=s.stack.length+m:=Vc
 have s4:({s with stack:=s.stack++List.replicate m 0}:Mc).aD=s.aD:=rfl;rw[s3]at k3;rw[s4]at k4;subst k3 k4;have N:P.heap[E.mb]?=M (Yl #[aj E.fb,aj E.sb,Q k1 _ k2,Q v s.aD.length x,V O s.pos,V O s.aC] 172):=k0;obtain⟨S,d⟩:=bL (λB=>(∀q,B.cell? ⟨E.mb,q,H⟩=#[aj E.fb,aj E.sb,Q k1 (s.stack.length+m) k2,Q v s.aD.length x,V O s.pos,V O s.aC][q]?):Yw->Prop);have g:∀f,Kp (λb=>M b=(Value.slice v s.aD.length x).ownBlock) P f->S f:=λf k=>by rw[d];exact(ae (k.az N k5)).1
 have l:∀f,Kp (λb=>M b=(Value.slice v s.aD.length x).ownBlock) P f->f.frozen? ⟨E.mb,3,H⟩=false:=λf k=>(ae (k.az N k5)).2 3
 obtain⟨q,B⟩:=bL (s.stack.length-c.typ.1.length);have K9:(s.stack.length:Int) - c.typ.1.length=q:=Y
 have t:=Z d;clear h8 k0 N d;change Hid _ at L h9 B;replace A:=Z A;change Hid _ at g l;go_wp2_with fail;refine rj 20 21 (S) ?hS λhS=>?_
 case hS=>exact g _ fL
 have d:=t.out;subst d;refine tj 0 ?_;iterate 15 refine tn ?_
 refine oj 16 λK j=>?_
 go_simp;refine j _ _ (g _ (((Kp.refl _ _).drew).alloc _)) (λhS=>?_);clear j K;refine oj 17 λK j=>?_
 refine bJ _ Vg _ _ _ Vg E.B 210 i1 _ 3 24 underlying170 w9 e0 e3 e4 U Y _ s.aD.length _ Vg (((((Kp.refl no P).drew).alloc _)).own A bW) _ 1 [V O q,V O ((s.stack.length+m:Nat):Int),V O s.pos] Vg (aw.lq U _ _ 1 3 U) (by simp[Value.oneCell']) (by simp only[maxLen];omega) Y Vd ?_;intro v1 w6 f i u;have s5:Kp (λb=>M b=(Value.slice v s.aD.length x).ownBlock) P w6:=(((Kp.refl _ _).drew).alloc _).bS i (λk e=> Yo e.symm);have s6:=l _ s5;refine j _ _ (g _ s5) (λhS=>?_);clear j K;obtain⟨W0,W1,rfl⟩:=aA f;refine tj 18 ?_;refine tj 19 ?_;refine ej 20 λK j=>?_
 go_simp;refine j _ _ ?_;clear j K;refine dj ?_;have e:=L _ w6 _ _ (((Kp.refl no P).drew).alloc _) (by
  have e1:(s.aD++[(q,s.stack.length+m,s.pos)]).length=s.aD.length+1:=Vc
  have e2:(s.aD++[(q,s.stack.length+m,s.pos)]).flatMap fR=s.aD.flatMap fR++[V O q,V O ((s.stack.length+m:Nat):Int),V O s.pos]:=by simp[fR]
  rw[e1,e2];exact f) i u
 change cg _ (World.setCell w6 ⟨E.mb,3,H⟩ _) _/\Kp _ _ (World.setCell w6 ⟨E.mb,3,H⟩ _)at e;obtain⟨x1,x2⟩:=e;generalize World.setCell w6 _ _=s7 at *;have j:=x2.az h9 (λh=>h (Yp U));obtain⟨W2,-⟩:=ae j;obtain⟨s8,s9,k,-,-,-,-,-,-,-,-,-,-,K,-⟩:=x1.open;have k6:s7.heap[E.mb]?=M (Yl #[aj E.fb,aj E.sb,s8,s9,V O s.pos,V O s.aC] 172):=k;obtain⟨W3,W4⟩:=ae k6;have b:=K s7 c.entry (Kp.refl no s7);clear x1 k k6 j K hS g t l A L s5 s6 f i u;change Hid _ at b;go_wp2;go_ret;refine⟨U,?_,?_⟩
 .rw[hE.out,<-B.out];have:=b.1.free T;exact this
 .exact kW.any.trans (dz ((x0.trans x2).trans b.2))
end
def oE(s:Mc)(x:dQ):Bool:=decide (0<s.aD.length)&&decide ((cE s).2.1+x.aH+x.keep<=s.stack.length)
def pR{s:Mc}(h:oE s x=Yk):0<s.aD.length/\(cE s).2.1+x.aH+x.keep<=s.stack.length:=by grind[oE]
def gy(s:Mc)(x:dQ):Option (Nat×Mc):=if oE s x then M (0,oR s x)else H
def oF(f:dH)(s:Mc)(n:Nat):Option (Nat×Mc):=
 if s.aD.length=16 then M (6,s)
 else if n<f.funcs.length/\(f.funcs.getD n du).typ.1.length<=s.stack.length/\(f.funcs.getD n du).typ.1.length<=(f.funcs.getD n du).aZ/\(f.funcs.getD n du).aZ<=1000 then M (0,lW f s n)else H
def fB(f:dH)(s:Mc)(x:dQ):Option (Nat×Mc):=
 if x.op=0 then M (1,s)
 else if x.op=1\/x.op=2\/x.op=3 then M (0,s)
 else if x.op=4 then (if s.stack.length=0 then H else if aU s=0 then gy (aI s) x else M (0,aI s))
 else if x.op=5\/x.op=12 then gy s x
 else if x.op=11 then (if 0<s.aD.length/\(cE s).1<=(cE s).2.1/\(cE s).2.1<=s.stack.length then M (0,pQ s)else H)
 else if x.op=13 then (if s.stack.length=0 then H else if aU s=0 then M (0,aI s)else gy (aI s) x)
 else if x.op=14 then (if s.stack.length=0\/aU s<0 then H else if s.pos+(min (aU s) x.num).toNat<f.ao.length then gy (aI s) (f.ao.getD (s.pos+(min (aU s) x.num).toNat) bD)else H)
 else if x.op=16 then oF f s x.num
 else H
structure dH.Ok(f:dH):Prop where
 nf:f.funcs.length<=1000
 nc:f.ao.length<=1000000000
 nm:∀x∈f.ao,x.op=16->x.num<1000000
abbrev ey(x:dQ):Value:=.agg #[V Ys x.op.toNat,V Yr x.num,V O x.goal,V O x.aH,V O x.keep]
abbrev cR(x:dQ):Obj:= Yl #[V Ys x.op.toNat,V Yr x.num,V O x.goal,V O x.aH,V O x.keep] 214
section
variable{E:gX}{w:World}{s:Mc}
def cg.box(h:cg E w s)(o:Obj):cg (E.plus (λb=>b=w.heap.size)) (w.alloc o) s:=h.guard ((Kp.refl no w).alloc o) _ (λb a=>⟨Y,by rw[a];simp⟩)
def uW(h:cg (E.plus P) w s)(a:s.aD.length<=16)(d:s.stack.length<=1000000000)(b:oE s x=Yk):
  df 163 #[aj E.mb,.agg #[V O x.goal,V O x.aH,V O x.keep]] w (Yu #[]) λc=>cg (E.plus P) c (oR s x)/\Kp (gj (E.plus P)) w c:=
 LJ h (pR b).1 a d (pR b).2
def qI(h:cg (E.plus P) w s)(a:0<s.stack.length)(c:s.stack.length<=1000000000):
  df 73 #[aj E.mb] w (V Yr (aU s)) λb=>cg (E.plus P) b (aI s)/\Kp (gj (E.plus P)) w b:=cP h a c
def tL(h:cg (E.plus P) w s)(v:Int)(b:s.stack.length<=1000000000):
  df 134 #[aj E.mb,V Yr v] w (Yu #[]) λa=>cg (E.plus P) a (dM s v)/\Kp (gj (E.plus P)) w a:=gx h v b
def eO(s:Mc):(aI s).stack.length<=s.stack.length:=by grind[aI]
def rA(h:cg E w s)(a:(x.op=0/\t=1)\/((x.op=1\/x.op=2\/x.op=3)/\t=0)):
  df 130 #[aj E.mb,ey x] w (V O t) λb=>cg E b s/\Kp (gj E) w b:=by
 have c:=h.quiet ((Kp.refl no w).alloc (cR x));obtain⟨g,b,d,e,f⟩:=x;simp only at a;rcases a with⟨rfl,rfl⟩|⟨rfl |rfl |rfl,rfl⟩
 all_goals
  go_enter func130,ntmps130;go_wp2;go_ret;exact⟨U,c,oO⟩
theorem CU(h:cg E w s)(b:s.aD.length<=16)(e:s.stack.length<=1000000000)(d:x.op=5\/x.op=12)(f:oE s x=Yk):
  df 130 #[aj E.mb,ey x] w (V O 0) λa=>cg E a (oR s x)/\Kp (gj E) w a:=by
 have c:=h.l8;have a:=uW (h.box (cR x)) b e f;generalize oR s x=R at *;obtain⟨n,g,i,j,k⟩:=x;simp only at d a;rcases d with rfl |rfl
 all_goals
  go_enter func130,ntmps130;go_wp2_with fail;refine a.bw ?_;rintro o⟨l,m⟩;go_wp2;go_ret;exact⟨U,l.free c,((Kp.refl _ _).alloc _).trans (dz m)⟩
theorem vZ(h:cg E w s)(b:0<s.stack.length)(e:s.stack.length<=1000000000)(d:(x.op=4/\(aU s==0)=Yj)\/(x.op=13/\(aU s==0)=Yk)):
  df 130 #[aj E.mb,ey x] w (V O 0) λa=>cg E a (aI s)/\Kp (gj E) w a:=by
 have c:=h.l8;have a:=qI (h.box (cR x)) b e;generalize aI s=R at *;generalize aU s=v at *;obtain⟨n,f,g,i,j⟩:=x;simp only at d a;rcases d with⟨rfl,k⟩|⟨rfl,k⟩
 all_goals
  go_enter func130,ntmps130;go_wp2_with fail;refine a.bw ?_;rintro o⟨l,m⟩;go_wp2;go_ret;exact⟨U,l.free c,((Kp.refl _ _).alloc _).trans (dz m)⟩
theorem oU(h:cg E w s)(d:s.aD.length<=16)(e:0<s.stack.length)(g:s.stack.length<=1000000000)(i:(x.op=4/\(aU s==0)=Yk)\/(x.op=13/\(aU s==0)=Yj))(j:oE (aI s) x=Yk):
  df 130 #[aj E.mb,ey x] w (V O 0) λa=>cg E a (oR (aI s) x)/\Kp (gj E) w a:=by
 have f:=h.l8;have a:=qI (h.box (cR x)) e g;have c:=λW (k:cg (E.plus (λb=>b=w.heap.size)) W (aI s))=>uW k d (Vk (eO s) g) j
 generalize oR (aI s) x=R at *;generalize aI s=t at *;generalize aU s=v at *;obtain⟨u,k,l,m,n⟩:=x;simp only at i a c;rcases i with⟨rfl,o⟩|⟨rfl,o⟩
 all_goals
  go_enter func130,ntmps130;go_wp2_with fail;refine a.bw ?_;rintro y⟨p,b⟩;have z:=(ae (b.az (ai w _) (λh=>h (Yp U)))).1;go_wp2_with fail;refine(c _ p).bw ?_;rintro A⟨q,r⟩;go_wp2;go_ret;exact⟨U,q.free f,((Kp.refl _ _).alloc _).trans (dz (b.trans r))⟩
def qJ{P:Prop}(h:P:=by
 rintro c⟨a,b⟩;go_wp2;go_ret;exact⟨U,a.free hro,((Kp.refl _ _).alloc _).trans (dz b)⟩):P:=h
theorem E7(h:cg E w s)(b:0<s.aD.length)(c:s.aD.length<=16)(g:s.stack.length<=1000000000)(d:(cE s).1<=(cE s).2.1)(e:(cE s).2.1<=s.stack.length)(f:x.op=11):
  df 130 #[aj E.mb,ey x] w (V O 0) λa=>cg E a (pQ s)/\Kp (gj E) w a:=by
 have hro:=h.l8;have a:=Hf (h.box (cR x)) b c g d e;generalize pQ s=R at *;obtain⟨m,i,j,k,l⟩:=x;simp only at f a;subst f;go_enter func130,ntmps130;go_wp2_with fail;refine a.bw ?_;exact qJ
theorem CV(h:cg E w s)(j:s.aD.length<=16)(k:s.stack.length<=1000000000)(e:E.f.Ok)(i:x.op=16)(f:x.num<1000000){g:Mc}(c:oF E.f s x.num=M (t,g)):
  df 130 #[aj E.mb,ey x] w (V O t) λa=>cg E a g/\Kp (gj E) w a:=by
 have hro:=h.l8;have d:df 71 #[aj E.mb,V O x.num] (w.alloc (cR x)) (V O t) λa=>cg (E.plus (λb=>b=w.heap.size)) a g/\Kp (gj (E.plus (λb=>b=w.heap.size))) (w.alloc (cR x)) a:=by
  unfold oF at c;split at c
  .rename_i b;cases c;refine(E6 (h.box (cR x)) b x.num).cJ ?_;exact⟨U,h.box _,iR⟩
  .rename_i b;split at c
   .rename_i a;cases c;exact yl (h.box (cR x)) Y k a.1 e.nf a.2.1 a.2.2.1 a.2.2.2
   .cases c
 obtain⟨n,a,b,l,m⟩:=x;simp only at i d f;have o:IntKind.i64.wrap (a:Int)=a:=by rw[IntKind.wrap_i64];omega
 subst i;go_enter func130,ntmps130;go_wp2_with fail;refine d.bw ?_;exact qJ
end
section
variable{E:gX}{w:World}{s:Mc}
def cg.ed(h:cg E w s)(k:n<E.f.ao.length):∃e gv d a o b,w.heap[E.fb]?=M (Yl #[e,gv,V O E.f.bI,d] E.ft)/\d= Q (M ⟨a,o,H⟩) E.f.ao.length b/\E.f.ao.length<=b/\E.lo E.fb/\E.lo a/\
  w.cell? ⟨a,o+n*5,H⟩=M (V Ys (E.f.ao.getD n bD).op.toNat)/\w.cell? ⟨a,o+n*5+1,H⟩=M (V Yr (E.f.ao.getD n bD).num)/\
  w.cell? ⟨a,o+n*5+2,H⟩=M (V O (E.f.ao.getD n bD).goal)/\w.cell? ⟨a,o+n*5+3,H⟩=M (V O (E.f.ao.getD n bD).aH)/\w.cell? ⟨a,o+n*5+4,H⟩=M (V O (E.f.ao.getD n bD).keep):=by
 have c:=h.l8;obtain⟨e,gv,d,f⟩:=h.mod;obtain⟨u,b,g,i,l⟩:=f.ao;obtain⟨a,o,rfl,j,m,p,q,r,t⟩:=l n k;exact⟨e,gv,d,a,o,b,f.az,g,i,c _ f.own,c _ j,m,p,q,r,t⟩
def cg.acR(h:cg (E.plus P) w s)(d:n<E.f.ao.length):∃e gv c a o b,w.heap[E.fb]?=M (Yl #[e,gv,V O E.f.bI,c] E.ft)/\c= Q (M ⟨a,o,H⟩) E.f.ao.length b/\E.f.ao.length<=b/\(E.plus P).lo E.fb/\(E.plus P).lo a/\
  w.cell? ⟨a,o+n*5,H⟩=M (V Ys (E.f.ao.getD n bD).op.toNat)/\w.cell? ⟨a,o+n*5+1,H⟩=M (V Yr (E.f.ao.getD n bD).num)/\
  w.cell? ⟨a,o+n*5+2,H⟩=M (V O (E.f.ao.getD n bD).goal)/\w.cell? ⟨a,o+n*5+3,H⟩=M (V O (E.f.ao.getD n bD).aH)/\w.cell? ⟨a,o+n*5+4,H⟩=M (V O (E.f.ao.getD n bD).keep):=h.ed d
theorem zn(h:cg E w s)(J:s.aD.length<=16)(L:0<s.stack.length)(hs:s.stack.length<=1000000000)(N:E.f.Ok)(hx:x.op=14)(h4:0<=aU s)(i:s.pos+(min (aU s) x.num).toNat<E.f.ao.length)
  (hj:oE (aI s) (E.f.ao.getD (s.pos+(min (aU s) x.num).toNat) bD)=Yk):
  df 130 #[aj E.mb,ey x] w (V O 0) λf=>cg E f (oR (aI s) (E.f.ao.getD (s.pos+(min (aU s) x.num).toNat) bD))/\Kp (gj E) w f:=by
 have r:=h.l8;have h5:=N.nc;have t:=h.box (cR x);have u:=λW (a:Kp no (w.alloc (cR x)) W)=>qI (t.quiet a) L hs
 have c:=λW (a:cg (E.plus (λb=>b=w.heap.size)) W (aI s))=>uW a J (Vk (eO s) hs) hj
 have j:=λW (a:cg (E.plus (λb=>b=w.heap.size)) W (aI s))=>a.acR i
 have P:(aI s).pos=s.pos:=rfl;obtain⟨d,T⟩:=bL ((min (aU s) x.num).toNat);have z:min (aU s) (x.num:Int)=(d:Int):=Y
 rw[<-T]at c j i;rw[<-T];generalize E.f.ao.getD (s.pos+d) bD=y at *;have W:=Z u;have HJ:=Z c;generalize hR:oR (aI s) y=R at *;generalize aU s=v at *;obtain⟨op,l,m,n,p⟩:=x;simp only at hx W z;subst hx;have A:(w.alloc (Yl #[V Ys 14,V Yr l,V O m,V O n,V O p] 214)).heap[w.heap.size]?=M (Yl #[V Ys 14,V Yr l,V O m,V O n,V O p] 214):=ai _ _;clear h u c hj t hR T;change Hid _ at j r;go_enter func130,ntmps130;go_wp2_with fail;refine rj 6 6 (λf=> ∀q,f.cell? ⟨w.heap.size,q,H⟩=#[V Ys 14,V Yr l,V O m,V O n,V O p][q]?) ?hS λhS=>?_
 case hS=>exact(ae (w:=(w.alloc _).drew) A).1
 refine tj 0 ?_;refine tj 2 ?_;refine tj 3 ?_;refine oj 1 λK g=>?_
 refine sc (W _ fL) ?_;rintro e G⟨rfl,I,k1⟩;refine⟨_,U,g _ _ (ae (k1.az A (λh=>h (Yp U)))).1 (λhS=>?_)⟩;clear g K;simp only[pS];refine oj 4 λK g=>?_
 go_simp;refine g _ _ hS (λhS=>?_);clear g K;refine oj 5 λK g=>?_
 go_simp;refine g _ _ hS (λhS=>?_);clear g K hS;refine dj ?_;obtain⟨fv,gv,h6,a,o,X,B,h0,h7,h8,h9,c0,c1,c2,c3,c4⟩:=j _ I;obtain⟨sv,cv,C,⟨ad,k0,k2,-⟩,-,-,-,-,-,-,-,-,-,-,-,-,h1⟩:=I.open;subst h0;have D:=C;have F:=B;have d1:=c2;have d2:=c3;have d3:=c4;have k3:IntKind.i64.wrap (d:Int)=d:=by rw[IntKind.wrap_i64];omega
 have h2:IntKind.i64.wrap ((s.pos:Int)+(d:Int))=((s.pos+d:Nat):Int):=by rw[IntKind.wrap_i64];omega
 have h3:=i;obtain⟨k,hk⟩:=bL (s.pos+d);rw[<-hk]at d1 d2 d3 h2 h3;obtain⟨S,b⟩:=bL (λf=>(∀q,f.cell? ⟨E.mb,q,H⟩=#[aj E.fb,aj E.sb,sv,cv,V O s.pos,V O s.aC][q]?)/\(∀q,f.cell? ⟨E.fb,q,H⟩=#[fv,gv,V O E.f.bI,Q (M ⟨a,o,H⟩) E.f.ao.length X][q]?)/\f.cell? ⟨a,o+k*5+2,H⟩=M (V O y.goal)/\f.cell? ⟨a,o+k*5+2+1,H⟩=M (V O y.aH)/\f.cell? ⟨a,o+k*5+2+2,H⟩=M (V O y.keep):Yw->Prop);have f:S G.drew:=by rw[b];exact⟨(ae (w:=G.drew) D).1,(ae (w:=G.drew) F).1,d1,d2,d3⟩
 have c:=HJ _ (I.quiet ((Kp.refl no G).drew));have q:=Z b;clear I C D B F c0 c1 c2 c3 c4 d1 d2 d3 b h1 j HJ W z hk i P;go_wp2_with fail;refine rj 18 19 (S) ?hS λhS=>?_
 case hS=>exact f
 have b:=q.out;subst b;refine tj 0 ?_;iterate 17 refine tn ?_
 refine ej 18 λK g=>?_
 refine sc c ?_;rintro e w2⟨rfl,K,k4⟩;refine⟨_,U,g _ _ ?_⟩;refine dj ?_;go_wp2;go_ret;exact⟨U,K.free r,(MV).trans (dz ((k1.drew).trans k4))⟩
def E8(h:cg E w s)(d:s.aD.length<=16)(g:s.stack.length<=1000000000)(e:E.f.Ok)(f:x.op=16->x.num<1000000){c:Mc}(a:fB E.f s x=M (t,c)):
  df 130 #[aj E.mb,ey x] w (V O t) λb=>cg E b c/\Kp (gj E) w b:=by
 unfold fB at a;split at a
 .simp_all[rA]
 split at a
 .simp_all[rA]
 split at a
 .rename_i b;split at a
  .cases a
  .rename_i i;split at a
   .grind[gy,oU]
   grind[vZ]
 split at a
 .grind[gy,CU]
 split at a
 .grind[E7]
 split at a
 .rename_i b;split at a<;>grind[vZ,gy,oU]
 grind[gy,zn,CV]
end
section
variable{E:gX}{w:World}{s:Mc}
def cg.pT(h:cg E w s):∃p gv,w.heap[E.sb]?=M (EW E p gv)/\(∃D n,p= Q D s.mem.length n/\s.mem.length<=n)/\(∃D n,gv= Q D s.gl.length n/\s.gl.length<=n)/\
  w.ownsRow E.B 5 1 p s.mem.length (aP s.mem)/\w.ownsRow E.B 38 1 gv s.gl.length (ay s.gl)/\fk w E.kb s.bG/\E.sb≠E.mb/\E.kb≠E.mb/\E.kb≠E.sb/\
  (M E.mb≠p.ownBlock/\M E.sb≠p.ownBlock/\M E.mb≠gv.ownBlock/\M E.sb≠gv.ownBlock)/\
  (∀b,E.lo b->M b≠p.ownBlock/\M b≠gv.ownBlock/\b≠E.sb/\b≠E.kb)/\
  (∀W a k v,Kp no w W->gv.ownBlock=M a->k<s.gl.length->cg E (W.setCell ⟨a,k,H⟩ (V Yr v)) {s with gl:=s.gl.set k v}/\Kp (gj E) w (W.setCell ⟨a,k,H⟩ (V Yr v)))/\
  (∀W a k (c:UInt8),Kp no w W->p.ownBlock=M a->k<s.mem.length->cg E (W.setCell ⟨a,k,H⟩ (V Ys c.toNat)) {s with mem:=s.mem.set k c}/\Kp (gj E) w (W.setCell ⟨a,k,H⟩ (V Ys c.toNat)))/\
  (∀W o u l,Kp no w W->o.ownsRow E.B 5 1 u l.length (aP l)->W.grownBy o p.ownBlock->(u.ownBlock=p.ownBlock\/u.ownBlock=M W.heap.size)->cg E (o.setCell ⟨E.sb,0,H⟩ u) {s with mem:=l}/\Kp (gj E) w (o.setCell ⟨E.sb,0,H⟩ u))/\
  (∀W o m,Kp no w W->fk o E.kb m->W.grownBy o (M E.kb)->cg E o {s with bG:=m}/\Kp (gj E) w o):=by
 obtain⟨f,I,J,p,gv,h⟩:=h;have q:∀{v:Yx} {k:Nat} {b j:Nat},(∀b,v.ownBlock=M b->f b=k)->f b=j->j≠k->M b≠v.ownBlock:=λC g i e=>i Ve
 have d:∀{a b i j:Nat},f a=i->f b=j->i≠j->a≠b:=λK g i e=>i Ve
 refine⟨p,gv,h.st,(aw.own h.mem).aJ,(aw.own h.gl).aJ,h.mem,h.gl,h.bG,d h.r2 h.r1 Vb,d h.r7 h.r1 Vb,d h.r7 h.r2 Vb,⟨q h.r5 h.r1 Vb,q h.r5 h.r2 Vb,q h.r6 h.r1 Vb,q h.r6 h.r2 Vb⟩,
  λb g=>⟨q h.r5 (h.low b g) Vb,q h.r6 (h.low b g) Vb,d (h.low b g) h.r2 Vb,d (h.low b g) h.r7 Vb⟩,λW a k v y K L=>?_,λW a k c y K L=>?_,λW o u l y R F N=>?_,λW o m y L F=>?_⟩
 .have a:=h.quiet y;obtain⟨D,n,rfl,-⟩:=(aw.own a.gl).aJ;obtain⟨i,P,C,-,-⟩:=a.gl.form Y;cases C;cases K;have z:Kp (λb=>(λr=>r=2\/r=5\/r=6\/r=7) (f b)) W (W.setCell ⟨i,k,H⟩ (V Yr v)):=(Kp.refl _ W).bE (Yp (Yp (Yo (a.r6 i U)))) _ _;have x:Kp (one i) W (W.setCell ⟨i,k,H⟩ (V Yr v)):=(Kp.refl _ W).bK _ _;have A:=(a.gl.stored k (V Yr v)).1;have B:(ay s.gl).set k (V Yr v)=ay (s.gl.set k v):=by simp_all[ay]
  rw[B]at A;have t:∀{b j:Nat},f b=j->j≠6-> ¬one i b:=λg G (e:_=i)=>G (by rw[<-g,e,a.r6 i U])
  exact⟨⟨f,I,J,p,_,a.Js (s':={s with gl:=s.gl.set k v}) (gv':= Q (M ⟨i,0,H⟩) s.gl.length n) z U U U U (x.az a.st (t a.r2 Vb)) (x.own a.mem (λb g=>t (a.r5 b g) Vb)) Ve (a.bG.kp x (t a.r7 Vb)) a.r5 a.r6⟩,y.any.trans (a.up (X:=λr=>r=2\/r=5\/r=6\/r=7) z Vb)⟩
 .have a:=h.quiet y;obtain⟨D,n,rfl,-⟩:=(aw.own a.mem).aJ;obtain⟨i,P,C,-,-⟩:=a.mem.form Y;cases C;cases K;have z:Kp (λb=>(λr=>r=2\/r=5\/r=6\/r=7) (f b)) W (W.setCell ⟨i,k,H⟩ (V Ys c.toNat)):=(Kp.refl _ W).bE (Yp (Yo (a.r5 i U))) _ _;have x:Kp (one i) W (W.setCell ⟨i,k,H⟩ (V Ys c.toNat)):=(Kp.refl _ W).bK _ _;have A:=(a.mem.stored k (V Ys c.toNat)).1;have B:(aP s.mem).set k (V Ys c.toNat)=aP (s.mem.set k c):=by simp_all[aP]
  rw[B]at A;have t:∀{b j:Nat},f b=j->j≠5-> ¬one i b:=λg G (e:_=i)=>G (by rw[<-g,e,a.r5 i U])
  exact⟨⟨f,I,J,_,gv,a.Js (s':={s with mem:=s.mem.set k c}) (mv':= Q (M ⟨i,0,H⟩) s.mem.length n) z U U U U (x.az a.st (t a.r2 Vb)) Ve (x.own a.gl (λb g=>t (a.r6 b g) Vb)) (a.bG.kp x (t a.r7 Vb)) a.r5 a.r6⟩,y.any.trans (a.up (X:=λr=>r=2\/r=5\/r=6\/r=7) z Vb)⟩
 .have a:=(h.quiet y).pn 5;have C:∀b,u.ownBlock=M b->dC f W.heap.size 5 b=5:=by
   intro b g;rcases N with e|e
   .grind[cI.r5]
   simp_all[ef]
  have k:Kp (λb=>(λr=>r=2\/r=5\/r=6\/r=7) (dC f W.heap.size 5 b)) W o:=(Kp.refl _ W).bS F (λb g=> Yo (Yp (Yo (a.r5 b g))));have z:Kp (λb=>(λr=>r=2\/r=5\/r=6\/r=7) (dC f W.heap.size 5 b)) W (o.setCell ⟨E.sb,0,H⟩ u):=k.bE (Yo a.r2) _ _;have c:Kp (λb=>M b=p.ownBlock\/b=E.sb) W (o.setCell ⟨E.sb,0,H⟩ u):=Kp.bE (S:=λb=>M b=p.ownBlock\/b=E.sb) ((Kp.refl _ W).bS F (λb g=> Yo (Yo g.symm))) (Yp U) _ _;have t:∀{b j:Nat},dC f W.heap.size 5 b=j->j≠5->j≠2-> ¬(M b=p.ownBlock\/b=E.sb):=λg n i e=>e.elim (λe=>n (by grind[cI.r5])) (λe=>i (by grind[cI.r2]))
  have n:o.heap[E.sb]?=M (EW E p gv):=(F.block E.sb (au a.st) (λe=>by grind[cI.r5,cI.r2])).trans a.st;have i:(o.setCell ⟨E.sb,0,H⟩ u).ownsRow E.B 5 1 u l.length (aP l):=((Kp.refl (one E.sb) o).bK _ _).own R (λb g (e:b=E.sb)=>by grind[cI.r2]);exact⟨⟨_,I,J,u,gv,a.Js (s':={s with mem:=l}) z U U U U (heap_setCell n _) i (c.own a.gl (λb g=>t (a.r6 b g) Vb Vb)) (a.bG.kp c (t a.r7 Vb Vb)) C a.r6⟩,y.any.trans (a.up (X:=λr=>r=2\/r=5\/r=6\/r=7) z Vb)⟩
 .have a:=h.quiet y;have x:Kp (one E.kb) W o:=(Kp.refl _ W).bS F (λb g=>by cases g;exact Yo U);have z:Kp (λb=>(λr=>r=2\/r=5\/r=6\/r=7) (f b)) W o:=x.mono (λb _ (e:b=E.kb)=>by grind[cI.r7]);have t:∀{b j:Nat},f b=j->j≠7-> ¬one E.kb b:=λg G (e:_=E.kb)=>G (by grind[cI.r7])
  exact⟨⟨f,I,J,p,gv,a.Js (s':={s with bG:=m}) z U U U U (x.az a.st (t a.r2 Vb)) (x.own a.mem (λb g=>t (a.r5 b g) Vb)) (x.own a.gl (λb g=>t (a.r6 b g) Vb)) L a.r5 a.r6⟩,y.any.trans (a.up (X:=λr=>r=2\/r=5\/r=6\/r=7) z Vb)⟩
def lB(s:Mc):Mc:=dM (aI (aI (aI s))) (if aU s=0 then aU (aI s)else aU (aI (aI s)))
def E9(h:cg E w s)(o:3<=s.stack.length)(p:s.stack.length<=1000000000):
  df 131 #[aj E.mb] w (Yu #[]) λa=>cg E a (lB s)/\Kp (gj E) w a:=by
 have q:(aI s).stack.length=s.stack.length-1:=by unfold aI;simp
 have x:(aI (aI s)).stack.length=s.stack.length-2:=by rw[show(aI (aI s)).stack.length=(aI s).stack.length-1 by unfold aI;simp,q];omega
 have y:=eO (aI (aI s));have k:=cP h Y p;have t2:=λW (a:cg E W (aI s))=>cP a Y Y
 have t3:=λW (a:cg E W (aI (aI s)))=>cP a Y Y
 have l:lB s=dM (aI (aI (aI s))) (if aU s=0 then aU (aI s)else aU (aI (aI s))):=rfl;have m:=λv W (a:cg E W (aI (aI (aI s))))=>gx a v Y
 generalize aU (aI (aI s))=z at *;generalize aU (aI s)=A at *;generalize aU s=n at *;generalize lB s=R at *;by_cases a:n=0
 .subst a;go_enter func131,ntmps131;go_wp2_with fail;refine k.bw ?_;rintro r⟨b,c⟩;go_wp2_with fail;refine(t2 _ b).bw ?_;rintro t⟨d,e⟩;go_wp2_with fail;refine(t3 _ d).bw ?_;rintro u⟨f,g⟩;go_wp2_with fail;refine(m _ _ f).bw ?_;rintro v⟨i,j⟩;go_wp2;go_end0;rw[l];exact⟨U,i,((c.trans e).trans g).trans j⟩
 .have B:(n==0)=false:=by simpa using a
  go_enter func131,ntmps131;go_wp2_with fail;refine k.bw ?_;rintro r⟨b,c⟩;go_wp2_with fail;refine(t2 _ b).bw ?_;rintro t⟨d,e⟩;go_wp2_with fail;refine(t3 _ d).bw ?_;rintro u⟨f,g⟩;go_wp2_with fail;refine(m _ _ f).bw ?_;rintro v⟨i,j⟩;go_wp2;go_end0;rw[l,Va a];exact⟨U,i,((c.trans e).trans g).trans j⟩
end
def dw(s:Mc)(x:dQ):Option Mc:=
 if x.op=32 then (if 0<s.aD.length/\(cE s).1+x.num<s.stack.length then M (dM s (s.stack.getD ((cE s).1+x.num) 0))else H)
 else if x.op=33 then (if 0<s.aD.length/\(cE s).1+x.num+1<s.stack.length then M {aI s with stack:=(aI s).stack.set ((cE s).1+x.num) (aU s)}else H)
 else if x.op=34 then (if 0<s.aD.length/\(cE s).1+x.num+1<s.stack.length then M (dM {aI s with stack:=(aI s).stack.set ((cE s).1+x.num) (aU s)} (aU s))else H)
 else if x.op=35 then (if x.num<s.gl.length then M (dM s (s.gl.getD x.num 0))else H)
 else if x.op=36 then (if x.num<s.gl.length/\0<s.stack.length then M {aI s with gl:=s.gl.set x.num (aU s)}else H)
 else H
section
variable{E:gX}{w:World}{s:Mc}
def ym(h:cg (E.plus P) w s)(a:0<s.aD.length)(b:s.aD.length<=16)(c:(cE s).1+n<=1000000000):
  df 165 #[aj E.mb,V Yr n] w (V O ((cE s).1+n:Nat)) λd=>Kp no w d:=G8 (E:=E.plus P) h a b c
theorem CW(h:cg E w s)(F:0<s.aD.length)(G:s.aD.length<=16)(hs:s.stack.length<=1000000000)(T:x.op=32)(I:(cE s).1+x.num<s.stack.length):
  df 132 #[aj E.mb,ey x] w (Yu #[]) λc=>cg E c (dM s (s.stack.getD ((cE s).1+x.num) 0))/\Kp (gj E) w c:=by
 have J:=h.l8;have f:=h.box (cR x);have g:=λW (t:Kp no _ W)=>ym (f.quiet t) F G (n:=x.num) Y
 have j:=λv W (t:Kp no _ W)=>tL (f.quiet t) v hs
 obtain⟨sv,X,u,⟨ad,y,rfl,h0⟩,-,-,-,-,z,-,-,-⟩:=f.open;have l:=u;obtain⟨a,rfl,i,L⟩:=oD z U I;obtain⟨op,d,m,o,p⟩:=x;simp only at T I g j i l;subst T;obtain⟨k,hk⟩:=bL ((cE s).1+d);rw[<-hk]at g i I⊢;generalize s.stack.getD k 0=v at *;obtain⟨W,r⟩:=bL (w.alloc (Yl #[V Ys 32,V Yr d,V O m,V O o,V O p] 214));have A:W.heap[w.heap.size]?=M (Yl #[V Ys 32,V Yr d,V O m,V O o,V O p] 214):=by rw[r];exact ai _ _
 have t:Kp no w W:=by rw[r];exact(Kp.refl _ _).alloc _
 have B:W.heap[E.mb]?=M (Yl #[aj E.fb,aj E.sb,Q (M ⟨a,0,H⟩) s.stack.length y,X,V O s.pos,V O s.aC] 172):=by rw[r];exact l
 have C:W.cell? ⟨a,k,H⟩=M (V Yr v):=by rw[r];exact i
 have N:∀e,Kp no W e->df 165 #[aj E.mb,V Yr d] e (V O k) λc=>Kp no e c:=by rw[r];exact g
 have P:∀v e,Kp no W e->df 134 #[aj E.mb,V Yr v] e (Yu #[]) λc=>cg (E.plus (λb=>b=w.heap.size)) c (dM s v)/\Kp (gj (E.plus (λb=>b=w.heap.size))) e c:=by rw[r];exact j
 obtain⟨S,b⟩:=bL (λc=>(∀q,c.cell? ⟨w.heap.size,q,H⟩=#[V Ys 32,V Yr d,V O m,V O o,V O p][q]?)/\(∀q,c.cell? ⟨E.mb,q,H⟩=#[aj E.fb,aj E.sb,Q (M ⟨a,0,H⟩) s.stack.length y,X,V O s.pos,V O s.aC][q]?)/\c.cell? ⟨a,k,H⟩=M (V Yr v):Yw->Prop);have q:∀e,Kp no W e->S e:=λe k=>by rw[b];exact⟨(ae (k.az A id)).1,(ae (k.az B id)).1,k.aY C⟩
 have R:=Z b;clear h f g j u l z i L A B C b hk;go_enter func132,ntmps132;go_wp2_with fail;rw[<-r];refine rj 11 12 (S) ?hS λhS=>?_
 case hS=>exact q _ fL
 have b:=R.out;subst b;refine tj 0 ?_;iterate 7 refine tn ?_
 refine oj 8 λK D=>?_
 refine sc (N _ fL) ?_;rintro e w1⟨rfl,k1⟩;have c:Kp no W w1:=Kp.trans ((Kp.refl no W).drew) k1;refine⟨_,U,D _ _ (q _ c) (λhS=>?_)⟩;clear D K;simp only[pS];refine tj 9 ?_;refine tj 10 ?_;refine ej 11 λK D=>?_
 refine sc (P _ _ c) ?_;rintro e w2⟨rfl,K,k2⟩;refine⟨_,U,D _ _ ?_⟩;refine dj ?_;go_wp2;go_end0;exact⟨U,K.free J,(t.any.trans c.any).trans (dz k2)⟩
def wm(h:cg E w s)(A:0<s.aD.length)(B:s.aD.length<=16)(hs:s.stack.length<=1000000000){C:Mc}(c:x.op=33/\C={aI s with stack:=(aI s).stack.set ((cE s).1+x.num) (aU s)}\/x.op=34/\C=dM {aI s with stack:=(aI s).stack.set ((cE s).1+x.num) (aU s)} (aU s))(hn:(cE s).1+x.num+1<s.stack.length):
  df 132 #[aj E.mb,ey x] w (Yu #[]) λe=>cg E e C/\Kp (gj E) w e:=by
 have m:=h.l8;have n:=cP (h.box (cR x)) Y hs;have lp:(aI s).stack.length=s.stack.length-1:=by unfold aI;simp
 have d:=λW (a:cg (E.plus (λb=>b=w.heap.size)) W (aI s))=>ym a A B (show(cE s).1+x.num<=1000000000 by omega)
 have o:cE (aI s)=cE s:=rfl;rw[o]at d;obtain⟨j,g,p,r,t⟩:=x;simp only at c hn d n;obtain⟨k,hk⟩:=bL ((cE s).1+g);rw[<-hk]at d hn c;have D:(w.alloc (Yl #[V Ys j.toNat,V Yr g,V O p,V O r,V O t] 214)).heap[w.heap.size]?=M _:=ai _ _;generalize aU s=v at *;clear h hk o;have h0:((j.toNat:Int)==32)=false:=by rcases c with⟨rfl,-⟩|⟨rfl,-⟩<;>rfl
 rcases c with⟨c,rfl⟩|⟨c,rfl⟩
 case' inl=>have F:((j.toNat:Int)==33)=true:=by rw[c];rfl
 case' inr=>
  have F:((j.toNat:Int)==33)=false:=by rw[c];rfl
  have a:((j.toNat:Int)==34)=true:=by rw[c];rfl
 all_goals
  clear c;go_enter func132,ntmps132;go_wp2_with fail;refine n.bw ?_;rintro l⟨h1,G⟩;have I:=G.az D (λh=>h (Yp U));obtain⟨sv,cv,u,⟨ad,J,rfl,h2⟩,-,n1,-,-,i,-,-,-,-,-,-,y,-⟩:=h1.open;rw[lp]at u i y;have L:=u;obtain⟨a,rfl,N,h3⟩:=oD i lp.symm (k:=k) Y;have P:=λW (K:Kp no l W)=>y W a k v K U Y
  have h4:k<s.stack.length-1:=Y
  obtain⟨S,f⟩:=bL (λe=>(∀q,e.cell? ⟨w.heap.size,q,H⟩=#[V Ys j.toNat,V Yr g,V O p,V O r,V O t][q]?)/\(∀q,e.cell? ⟨E.mb,q,H⟩=#[aj E.fb,aj E.sb,Q (M ⟨a,0,H⟩) (s.stack.length-1) J,cv,V O s.pos,V O s.aC][q]?):Yw->Prop);have z:∀b,Kp no l b->S b:=λb k=>by rw[f];exact⟨(ae (k.az I id)).1,(ae (k.az L id)).1⟩
  have q:∀b,Kp no l b->b.cell? ⟨a,k,H⟩=M _:=λb k=>k.aY N
  have R:∀b,Kp no l b->b.frozen? ⟨a,k,H⟩=false:=λb k=>(k.own i bW).frozenAt _
  have T:=Z f;have X:=λW (K:Kp no l W)=>d _ (h1.quiet K)
  go_wp2_with fail;refine rj 10 11 (S) ?hS λhS=>?_
  case hS=>exact z _ fL
  have f:=T.out;subst f;refine tj 0 ?_;iterate 6 refine tn ?_
  refine tj 8 ?_;refine oj 7 λK W=>?_
  refine sc (X _ fL) ?_;rintro e w2⟨rfl,k2⟩;have b:=Kp.trans ((Kp.refl no l).drew) k2;have h5:=q _ b;have h6:=R _ b;refine⟨_,U,W _ _ (z _ b) (λhS=>?_)⟩;simp only[pS];refine tj 9 ?_;refine ej 10 λK W=>?_
  go_simp;refine W _ _ ?_;refine dj ?_;obtain⟨K,k3⟩:=P _ b;generalize World.setCell w2 _ _=w3 at *;have W:=tL K v (by show((aI s).stack.set k v).length<=_;rw[VW];exact Vk (eO s) hs);first
  |go_wp2_with fail
   go_end0
   exact⟨U,K.free m,((Kp.refl _ _).alloc _).trans (dz (G.trans k3))⟩
  |clear K
   go_wp2_with fail;refine W.bw ?_;rintro w4⟨h7,k4⟩;go_wp2;go_end0;exact⟨U,h7.free m,((Kp.refl _ _).alloc _).trans (dz ((G.trans k3).trans k4))⟩
def CX{b:Option Addr}(h:W.ownsRow E.B 38 1 (Q b n i) n (ay L))(c:n=L.length)(d:k<n):∃a,b=M ⟨a,0,H⟩/\W.cell? ⟨a,k,H⟩=M (V Yr (L.getD k 0))/\W.frozen? ⟨a,k,H⟩=false:=oD h c d
theorem zo(h:cg E w s)(R:s.stack.length<=1000000000)(I:x.op=35)(J:x.num<s.gl.length)(T:s.gl.length<=1000000):
  df 132 #[aj E.mb,ey x] w (Yu #[]) λd=>cg E d (dM s (s.gl.getD x.num 0))/\Kp (gj E) w d:=by
 have t:=h.l8;have f:=h.box (cR x);have m:=λv W (u:Kp no _ W)=>tL (f.quiet u) v R
 obtain⟨L,N,y,-,-,-,-,-,-,-,-,-⟩:=f.open;obtain⟨P,gv,z,-,⟨ad,n,rfl,X⟩,-,A,-⟩:=f.pT;have o:=y;have p:=z;obtain⟨a,rfl,r,h0⟩:=CX A U J;obtain⟨op,c,g,i,j⟩:=x;simp only at I J m r o p⊢;subst I;generalize s.gl.getD c 0=v at *;obtain⟨W,l⟩:=bL (w.alloc (Yl #[V Ys 35,V Yr c,V O g,V O i,V O j] 214));have B:W.heap[w.heap.size]?=M (Yl #[V Ys 35,V Yr c,V O g,V O i,V O j] 214):=by rw[l];exact ai _ _
 have u:Kp no w W:=by rw[l];exact(Kp.refl _ _).alloc _
 have C:W.heap[E.mb]?=M (Yl #[aj E.fb,aj E.sb,L,N,V O s.pos,V O s.aC] 172):=by rw[l];exact o
 have D:W.heap[E.sb]?=M (Yl #[P,Q (M ⟨a,0,H⟩) s.gl.length n,.map (M E.kb)] 125):=by rw[l];exact p
 have F:W.cell? ⟨a,c,H⟩=M (V Yr v):=by rw[l];exact r
 have G:∀v e,Kp no W e->df 134 #[aj E.mb,V Yr v] e (Yu #[]) λd=>cg (E.plus (λb=>b=w.heap.size)) d (dM s v)/\Kp (gj (E.plus (λb=>b=w.heap.size))) e d:=by rw[l];exact m
 obtain⟨S,b⟩:=bL (λd=>(∀q,d.cell? ⟨w.heap.size,q,H⟩=#[V Ys 35,V Yr c,V O g,V O i,V O j][q]?)/\(∀q,d.cell? ⟨E.mb,q,H⟩=#[aj E.fb,aj E.sb,L,N,V O s.pos,V O s.aC][q]?)/\(∀q,d.cell? ⟨E.sb,q,H⟩=#[P,Q (M ⟨a,0,H⟩) s.gl.length n,.map (M E.kb)][q]?)/\d.cell? ⟨a,c,H⟩=M (V Yr v):Yw->Prop);have d:∀e,Kp no W e->S e:=λe k=>by rw[b];exact⟨(ae (k.az B id)).1,(ae (k.az C id)).1,(ae (k.az D id)).1,k.aY F⟩
 have q:IntKind.i64.wrap c=c:=by rw[IntKind.wrap_i64];omega
 have k:=Z b;go_enter func132,ntmps132;go_wp2_with fail;rw[<-l];refine rj 12 13 (S) ?hS λhS=>?_
 case hS=>exact d _ fL
 have b:=k.out;subst b;refine tj 0 ?_;iterate 11 refine tn ?_
 refine ej 12 λK hK=>?_
 refine sc (G _ _ fL) ?_;rintro e w2⟨rfl,K,k2⟩;refine⟨_,U,hK _ _ ?_⟩;refine dj ?_;go_wp2;go_end0;exact⟨U,K.free t,(u.any.drew).trans (dz k2)⟩
theorem zp(h:cg E w s)(hs:s.stack.length<=1000000000)(hx:x.op=36)(A:x.num<s.gl.length)(h8:s.gl.length<=1000000)(B:0<s.stack.length):
  df 132 #[aj E.mb,ey x] w (Yu #[]) λc=>cg E c {aI s with gl:=s.gl.set x.num (aU s)}/\Kp (gj E) w c:=by
 have C:=h.l8;have j:=h.box (cR x);have r:∀W,Kp no _ W->df 73 #[aj E.mb] W _ λc=>cg (E.plus _) c _/\Kp (one E.mb) W c/\Kp _ W c:=λW D=>AK (j.quiet D) B hs
 obtain⟨sv,cv,F,-,-,-,-,-,-,-,-,-⟩:=j.open;obtain⟨mv,gv,G,-,⟨ad,t,rfl,h9⟩,-,I,-,J,-,-,⟨-,-,L,k0⟩,k1,-⟩:=j.pT;have g:=F;have u:=G;have y:=J;have N:w.heap.size≠E.mb:=λe=>cj h.LH
 obtain⟨a,rfl,P,k2⟩:=CX I U A;have k3:a≠E.mb:=λe=>L (by rw[e];rfl)
 obtain⟨op,d,l,m,n⟩:=x;simp only at hx A r P g u⊢;subst hx;generalize aU s=v at *;obtain⟨W,p⟩:=bL (w.alloc (Yl #[V Ys 36,V Yr d,V O l,V O m,V O n] 214));have z:W.heap[w.heap.size]?=M (Yl #[V Ys 36,V Yr d,V O l,V O m,V O n] 214):=by rw[p];exact ai _ _
 have D:Kp no w W:=by rw[p];exact(Kp.refl _ _).alloc _
 have R:W.heap[E.mb]?=M (Yl #[aj E.fb,aj E.sb,sv,cv,V O s.pos,V O s.aC] 172):=by rw[p];exact g
 have o:W.heap[E.sb]?=M (Yl #[mv,Q (M ⟨a,0,H⟩) s.gl.length t,.map (M E.kb)] 125):=by rw[p];exact u
 have T:∀i,Kp no W i->df 73 #[aj E.mb] i (V Yr v) λc=>cg (E.plus (λb=>b=w.heap.size)) c (aI s)/\Kp (one E.mb) i c/\Kp (gj (E.plus (λb=>b=w.heap.size))) i c:=by rw[p];exact r
 obtain⟨S,f⟩:=bL (λc=>(∀q,c.cell? ⟨w.heap.size,q,H⟩=#[V Ys 36,V Yr d,V O l,V O m,V O n][q]?)/\c.cell? ⟨E.mb,1,H⟩=M (aj E.sb)/\(∀q,c.cell? ⟨E.sb,q,H⟩=#[mv,Q (M ⟨a,0,H⟩) s.gl.length t,.map (M E.kb)][q]?):Yw->Prop);have X:S W.drew:=by rw[f];exact⟨(ae z).1,(ae R).1 1,(ae o).1⟩
 have q:∀i,Kp (one E.mb) W i->cg (E.plus (λb=>b=w.heap.size)) i (aI s)->S i:=λi k b=>by
  obtain⟨c,K,g,-⟩:=b.open;rw[f];exact⟨(ae (k.az z N)).1,(ae g).1 1,(ae (k.az o y)).1⟩
 have k4:IntKind.i64.wrap d=d:=by rw[IntKind.wrap_i64];omega
 have k:=Z f;go_enter func132,ntmps132;go_wp2_with fail;rw[<-p];refine rj 12 13 (S) ?hS λhS=>?_
 case hS=>exact X
 have f:=k.out;subst f;refine tj 0 ?_;iterate 9 refine tn ?_
 refine oj 10 λK hK=>?_
 refine sc (T _ fL) ?_;rintro e w1⟨rfl,h7,k5,h0⟩;have b:=Kp.trans ((Kp.refl _ W).drew) k5;obtain⟨h1,h2,h3,-,-,-,h4,-,-,-,-,-,-,h5,-⟩:=h7.pT;have c:w1.heap[E.sb]?=M (Yl #[h1,h2,.map (M E.kb)] 125):=h3;have e1:=b.az o y;rw[e1]at c;cases c;obtain⟨a',h6,k6,k7⟩:=CX h4 U A;cases h6;have i:=h5 w1 a d v (Kp.refl no w1) U A;refine⟨_,U,hK _ _ (q _ b h7) (λhS=>?_)⟩;simp only[pS];refine tj 11 ?_;refine ej 12 λK hK=>?_
 go_simp;refine hK _ _ ?_;refine dj ?_;go_wp2;go_end0;exact⟨U,i.1.free C,(D.any.drew).trans (dz (h0.trans i.2))⟩
def CY(h:cg E w s)(c:s.aD.length<=16)(e:s.stack.length<=1000000000)(g:s.gl.length<=1000000){f:Mc}(a:dw s x=M f):
  df 132 #[aj E.mb,ey x] w (Yu #[]) λb=>cg E b f/\Kp (gj E) w b:=by
 unfold dw at a;split at a
 .grind[CW]
 split at a
 .rename_i b;split at a
  .rename_i d;cases a;exact wm h d.1 c e (Yo ⟨b,U⟩) d.2
  .cases a
 split at a
 .rename_i b;split at a
  .rename_i d;cases a;exact wm h d.1 c e (Yp ⟨b,U⟩) d.2
  .cases a
 grind[zo,zp]
end
def truth(b:Bool):Int:=if b then 1 else 0
def eV(wd:Bool)(k:Nat)(s:Mc):Option (Nat×Mc):=
 if 2<=s.stack.length then M (0,dM (aI (aI s)) (truth (eU wd k (aU (aI s)) (aU s))))else H
def eH(wd:Bool)(k:Nat)(s:Mc):Option (Nat×Mc):=
 if 2<=s.stack.length then match bU wd k (aU (aI s)) (aU s)with
  |none=>H
  |some (v,t)=>if t=0 then M (0,dM (aI (aI s)) v)else M (t,aI (aI s))
 else H
def dO(s:Mc)(op:Nat):Option (Nat×Mc):=
 if op=69\/op=80 then (if s.stack.length=0 then H else M (0,dM (aI s) (truth (aU s==0))))
 else if 70<=op/\op<=79 then eV Yj (op-70) s
 else if 81<=op/\op<=90 then eV Yk (op-81) s
 else if 106<=op/\op<=120 then eH Yj (op-106) s
 else if 124<=op/\op<=138 then eH Yk (op-124) s
 else if op=167 then (if s.stack.length=0 then H else M (0,dM (aI s) (eE Yj (aU s))))
 else if op=172 then (if s.stack.length=0 then H else M (0,dM (aI s) (IntKind.u64.wrap (bF Yj (aU s)))))
 else if op=173 then M (0,s)
 else H
section
variable{E:gX}{w:World}{s:Mc}
def tM(h:cg E w s)(b:Bool)(c:s.stack.length<=1000000000):
  df 170 #[aj E.mb,Yt b] w (Yu #[]) λa=>cg E a (dM s (truth b))/\Kp (gj E) w a:=by
 have d:=λv=>gx h v c
 cases b;all_goals
  go_enter func170,ntmps170;go_wp2_with fail;refine(d _).bw ?_;rintro f⟨a,e⟩;go_wp2;go_end0;exact⟨U,a,e⟩
def Jv(a:2<=s.stack.length)(b:s.stack.length<=1000000000):0<(aI s).stack.length/\(aI s).stack.length<=1000000000/\(aI (aI s)).stack.length<=1000000000:=by
 grind[aI]
def CZ(h:cg E w s)(d:2<=s.stack.length)(e:s.stack.length<=1000000000)(c:Bool)(k:Nat)(g:k<10):
  df 171 #[aj E.mb,wV c,V Ys k] w (Yu #[]) λa=>cg E a (dM (aI (aI s)) (truth (eU c k (aU (aI s)) (aU s))))/\Kp (gj E) w a:=by
 obtain⟨i,j,l⟩:=Jv d e;have m:=cP h Y e;have t2:=λW (a:cg E W _)=>cP a i j
 have c1:=λW=>Ck c k g (aU (aI s)) (aU s) W
 have n:=λb W (a:cg E W _)=>tM a b l
 generalize eU c k _ _=R at *;generalize aU (aI s)=a at *;generalize aU s=b at *;generalize wV c=v at *;go_enter func171,ntmps171;go_wp2_with fail;refine m.bw ?_;rintro x⟨o,p⟩;go_wp2_with fail;refine(t2 _ o).bw ?_;rintro y⟨q,r⟩;go_wp2_with fail;refine(c1 _).bw ?_;rintro z f;go_wp2_with fail;refine(n _ _ (q.quiet f)).bw ?_;rintro A⟨t,u⟩;go_wp2;go_end0;exact⟨U,t,((p.trans r).trans f.any).trans u⟩
def C0(h:cg E w s)(g:s.stack.length<=1000000000)(d:Bool)(k:Nat)(o:k<15){i:Mc}(c:eH d k s=M (t,i)):
  df 173 #[aj E.mb,wV d,V Ys k] w (V O t) λa=>cg E a i/\Kp (gj E) w a:=by
 unfold eH at c;split at c
 .rename_i f;obtain⟨p,q,r⟩:=Jv f g;have u:=cP h Y g;have t2:=λW (a:cg E W _)=>cP a p q
  have x:=λb W (a:cg E W _)=>gx a b r
  split at c
  .cases c
  .rename_i v C y;have c1:=λW=>Cl d k o _ _ W y
   generalize aU (aI s)=a at *;generalize aU s=b at *;generalize wV d=D at *;go_enter func173,ntmps173;go_wp2_with fail;refine u.bw ?_;rintro F⟨z,j⟩;go_wp2_with fail;refine(t2 _ z).bw ?_;rintro G⟨l,m⟩;go_wp2_with fail;refine(c1 _).bw ?_;rintro I e;split at c
   .rename_i n;cases c;subst n;go_wp2_with fail;refine(x _ _ (l.quiet e)).bw ?_;rintro J⟨A,B⟩;go_wp2;go_ret;exact⟨U,A,((j.trans m).trans e.any).trans B⟩
   .rename_i n;cases c;have A:((t:Int)==0)=false:=Ve
    go_wp2;go_ret;exact⟨U,l.quiet e,(j.trans m).trans e.any⟩
 .cases c
theorem Fa(h:cg E w s)(c:0<s.stack.length)(e:s.stack.length<=1000000000)(d:n=69\/n=80):
  df 137 #[aj E.mb,V Ys n] w (V O 0) λa=>cg E a (dM (aI s) (truth (aU s==0)))/\Kp (gj E) w a:=by
 have f:=cP h c e;have g:=λb W (a:cg E W _)=>tM a b (Vk (eO s) e)
 generalize aU s=a at *;rcases d with rfl |rfl
 all_goals
  go_enter func137,ntmps137;go_wp2_with fail;refine f.bw ?_;rintro l⟨b,i⟩;go_wp2_with fail;refine(g _ _ b).bw ?_;rintro m⟨j,k⟩;go_wp2;go_ret;exact⟨U,j,i.trans k⟩
def pU(h:cg E w s)(d:2<=s.stack.length)(g:s.stack.length<=1000000000)(c:Bool)(e:(c=Yj/\70<=n/\n<=79)\/(c=Yk/\81<=n/\n<=90)):
  df 137 #[aj E.mb,V Ys n] w (V O 0) λa=>cg E a (dM (aI (aI s)) (truth (eU c (n - (if c then 81 else 70)) (aU (aI s)) (aU s))))/\Kp (gj E) w a:=by
 have c1:=CZ h d g c (n - (if c then 81 else 70)) Ve;generalize dM _ _=R at *;have j:((n:Int)==69)=false:=Ve
 have l:((n:Int)==80)=false:=Ve
 rcases e with⟨rfl,a,b⟩|⟨rfl,a,b⟩
 case' inl=>
  have f:(70:Int)<=n/\(n:Int)<=79:=Y
  have i:IntKind.u8.wrap (n-70)=((n-70:Nat):Int):=by grind[IntKind.wrap_u8]
  simp only[wV,Vq,VL]at c1;generalize n-70=k at *
 case' inr=>
  have f:(81:Int)<=n/\(n:Int)<=90:=Y
  have i:IntKind.u8.wrap (n-81)=((n-81:Nat):Int):=by grind[IntKind.wrap_u8]
  simp only[wV,VK,VL]at c1;generalize n-81=k at *
 all_goals
  obtain⟨f,i⟩:=f;go_enter func137,ntmps137;go_wp2_with fail;refine c1.bw ?_;rintro k⟨m,o⟩;go_wp2;go_ret;simp_all
def pV(h:cg E w s)(g:s.stack.length<=1000000000)(c:Bool)(d:(c=Yj/\106<=n/\n<=120)\/(c=Yk/\124<=n/\n<=138)){f:Mc}(i:eH c (n - (if c then 124 else 106)) s=M (t,f)):
  df 137 #[aj E.mb,V Ys n] w (V O t) λa=>cg E a f/\Kp (gj E) w a:=by
 have c1:=C0 h g c _ Ve i;have l:((n:Int)==69)=false:=Ve
 have m:((n:Int)==80)=false:=Ve
 rcases d with⟨rfl,a,b⟩|⟨rfl,a,b⟩
 case' inl=>
  have e:(106:Int)<=n/\(n:Int)<=120:=Y
  have j:IntKind.u8.wrap (n-106)=((n-106:Nat):Int):=by grind[IntKind.wrap_u8]
  simp only[wV,Vq,VL]at c1;generalize n-106=k at *
 case' inr=>
  have e:(124:Int)<=n/\(n:Int)<=138:=Y
  have j:IntKind.u8.wrap (n-124)=((n-124:Nat):Int):=by grind[IntKind.wrap_u8]
  simp only[wV,VK,VL]at c1;generalize n-124=k at *
 all_goals
  obtain⟨e,j⟩:=e;go_enter func137,ntmps137;go_wp2_with fail;refine c1.bw ?_;rintro k⟨o,p⟩;go_wp2;go_ret;simp_all
def AZ{P:Prop}(h:P:=by
 generalize aU s=a at *;go_enter func137,ntmps137;go_wp2_with fail;refine t1.bw ?_;rintro b⟨c,d⟩;go_wp2_with fail;refine(c1 _ _).cJ ?_;go_wp2_with fail;refine(p1 _ _ c).bw ?_;rintro b⟨e,f⟩;go_wp2;go_ret;exact⟨U,e,d.trans f⟩):P:=h
theorem C1(h:cg E w s)(a:0<s.stack.length)(c:s.stack.length<=1000000000):
  df 137 #[aj E.mb,V Ys 167] w (V O 0) λb=>cg E b (dM (aI s) (eE Yj (aU s)))/\Kp (gj E) w b:=by
 have t1:=cP h a c;have p1:=λb W (d:cg E W _)=>gx d b (Vk (eO s) c)
 have c1:∀n W,fX 174 #[V Yr 32,V Yr n] W _:=λn W=>j4 Yj n W
 exact AZ
theorem zq(h:cg E w s)(a:0<s.stack.length)(c:s.stack.length<=1000000000):
  df 137 #[aj E.mb,V Ys 172] w (V O 0) λb=>cg E b (dM (aI s) (IntKind.u64.wrap (bF Yj (aU s))))/\Kp (gj E) w b:=by
 have t1:=cP h a c;have p1:=λb W (d:cg E W _)=>gx d b (Vk (eO s) c)
 have c1:∀n W,fX 175 #[V Yr 32,V Yr n] W _:=λn W=>cW Yj n W
 exact AZ
theorem C2(h:cg E w s):
  df 137 #[aj E.mb,V Ys 173] w (V O 0) λa=>cg E a s/\Kp (gj E) w a:=by
 go_enter func137,ntmps137;go_wp2;go_ret;simp_all[Kp.refl]
def Hg(h:cg E w s)(c:s.stack.length<=1000000000){e:Mc}(b:dO s n=M (t,e)):
  df 137 #[aj E.mb,V Ys n] w (V O t) λa=>cg E a e/\Kp (gj E) w a:=by
 unfold dO at b;split at b
 .grind[Fa]
 split at b
 .rename_i a;unfold eV at b;split at b
  .rename_i d;cases b;exact pU h d c Yj (Yo ⟨U,a.1,a.2⟩)
  .cases b
 split at b
 .rename_i a;unfold eV at b;split at b
  .rename_i d;cases b;exact pU h d c Yk (Yp ⟨U,a.1,a.2⟩)
  .cases b
 split at b
 .rename_i a;exact pV h c Yj (Yo ⟨U,a.1,a.2⟩) b
 split at b
 .rename_i a;exact pV h c Yk (Yp ⟨U,a.1,a.2⟩) b
 grind[C1,zq,C2]
end
def mj(i:Int)(h:i.toNat<Lib.len8tab.size)(a:0<=i)(b:i<=255):((Lib.len8tab[i.toNat]'h).toNat:Int)=(Lib.bitLen i.toNat:Int):=by
 rw[<-Lib.len8_of i a b];grind[Lib.len8]
def mo(k:Int)(b m:Nat)(c:b<=8)(a:0<=k)(d:k<=64)(e:(m:Int)=k+b):wrap64 (k+wrap64 (b:Int))=(m:Int):=by grind[wrap64]
def NP(b:Nat)(a:b<=8):wrap64 (wrap64 (b:Int))=(b:Int):=by grind[wrap64]
def NQ(b:Nat)(a:b<=8):wrap64 (b:Int)=(b:Int):=by grind[wrap64]
def Kv(x:Int)(w:Yw)(b:0<=x)(c:x<18446744073709551616):
  fX 156 #[V Yr x] w (V O (Lib.bitLen x.toNat)):=by
 have a:(Lib.len8tab.size:Int)=256:=by rw[Lib.len8tab_size];rfl
 go_enter func156,ntmps156;go_wp2;all_goals first
  |(exfalso;omega)
  |(go_ret;refine⟨Vy Ending.returned (Vy (Value.int IntKind.i64) ?_),U⟩)
 all_goals first
  |(rw[mj (x/4294967296/65536/256) Y Y Y]
    have e:(x/4294967296/65536/256).toNat=x.toNat/72057594037927936:=Y
    have l:=Lib.bitLen_le8' (x/4294967296/65536/256) Y Y;have s:=Lib.bitLen_shift56 x.toNat Y Y;rw[e]at l⊢;exact mo 56 _ _ l Vb Vb Y)
  |(rw[mj (x/4294967296/65536) Y Y Y]
    have e:(x/4294967296/65536).toNat=x.toNat/281474976710656:=Y
    have l:=Lib.bitLen_le8' (x/4294967296/65536) Y Y;have s:=Lib.bitLen_shift48 x.toNat Y Y;rw[e]at l⊢;exact mo 48 _ _ l Vb Vb Y)
  |(rw[mj (x/4294967296/256) Y Y Y]
    have e:(x/4294967296/256).toNat=x.toNat/1099511627776:=Y
    have l:=Lib.bitLen_le8' (x/4294967296/256) Y Y;have s:=Lib.bitLen_shift40 x.toNat Y Y;rw[e]at l⊢;exact mo 40 _ _ l Vb Vb Y)
  |(rw[mj (x/4294967296) Y Y Y]
    have e:(x/4294967296).toNat=x.toNat/4294967296:=Y
    have l:=Lib.bitLen_le8' (x/4294967296) Y Y;have s:=Lib.bitLen_shift32 x.toNat Y Y;rw[e]at l⊢;exact mo 32 _ _ l Vb Vb Y)
  |(rw[mj (x/65536/256) Y Y Y]
    have e:(x/65536/256).toNat=x.toNat/16777216:=Y
    have l:=Lib.bitLen_le8' (x/65536/256) Y Y;have s:=Lib.bitLen_shift24 x.toNat Y Y;rw[e]at l⊢;exact mo 24 _ _ l Vb Vb Y)
  |(rw[mj (x/65536) Y Y Y]
    have e:(x/65536).toNat=x.toNat/65536:=Y
    have l:=Lib.bitLen_le8' (x/65536) Y Y;have s:=Lib.bitLen_shift16 x.toNat Y Y;rw[e]at l⊢;exact mo 16 _ _ l Vb Vb Y)
  |(rw[mj (x/256) Y Y Y]
    have e:(x/256).toNat=x.toNat/256:=Y
    have l:=Lib.bitLen_le8' (x/256) Y Y;have s:=Lib.bitLen_shift8 x.toNat Y Y;rw[e]at l⊢;exact mo 8 _ _ l Vb Vb Y)
  |(rw[mj (x) Y Y Y]
    have e:(x).toNat=x.toNat:=Y
    have l:=Lib.bitLen_le8' (x) Y Y;rw[e]at l⊢;first
     |exact mo 0 _ _ l Vb Vb Y
     |exact NP _ l
     |exact NQ _ l)
def qs(x:Int)(a:x<18446744073709551616):Lib.bitLen x.toNat<=64:=Lib.bitLen_le x.toNat 64 Y Y
def qt{P:Prop}(h:P:=by
 go_wp2_with fail;refine hl.cJ ?_;go_wp2;go_ret;exact⟨Vc,U⟩):P:=h
def Gs(x:Int)(w:Yw)(b:0<=x)(a:x<18446744073709551616):
  fX 236 #[V Yr x] w (V O (64 - (Lib.bitLen x.toNat:Int))):=by
 have hl:=Kv x w b a;have c:=qs x a;generalize Lib.bitLen x.toNat=n at *;have d:IntKind.i64.wrap (64 - (n:Int))=64 - (n:Int):=by rw[IntKind.wrap_i64];omega
 go_enter func236,ntmps236;exact qt
def nz(w:Yw):Prop:= ∀j,j<64->w.cell? ⟨2,j,H⟩=M (V Ys (Lib.deBruijn64tab.getD j 0))
theorem nz.kp{w':Yw}(h:nz W)(k:Kp S W w')(a: ¬S 2):nz w':=λj b=>k.cell (h j b) a
def Kw(x a:Nat)(d:x<18446744073709551616)(b:x≠0)(c:x&&&(18446744073709551616-x)=a):
  IntKind.u64.wrap (bits BinOp.and IntKind.u64 (x:Int) (IntKind.u64.wrap (-(x:Int)))*285870213051353865)/288230376151711744=((a*285870213051353865%18446744073709551616/288230376151711744:Nat):Int):=by
 have e1:IntKind.u64.wrap (-(x:Int))=((18446744073709551616-x:Nat):Int):=by grind[IntKind.wrap_u64]
 grind[bits_and_u64_nat,IntKind.wrap_u64]
def RA(w:Yw):fX 237 #[V Yr 0] w (V O 64):=by
 go_enter func237,ntmps237;go_wp2;go_ret;exact⟨U,U⟩
def RB(x k a:Nat)(w:Yw)(c:((x:Int)==0)=Yj)
  (b:IntKind.u64.wrap (bits BinOp.and IntKind.u64 (x:Int) (IntKind.u64.wrap (-(x:Int)))*285870213051353865)/288230376151711744=(a:Int))
  (hi:a<64)(e:k<64)(d:w.cell? ⟨2,a,H⟩=M (V Ys k)):
  fX 237 #[V Yr x] w (V O k):=by
 go_enter func237,ntmps237;go_wp2_with(simp only[b]);go_ret;exact⟨U,U⟩
def Ed(x:Int)(w:Yw)(f:0<=x)(g:x<18446744073709551616)(e:nz w):
  fX 237 #[V Yr x] w (V O (Lib.ctz 64 x.toNat)):=by
 obtain⟨n,rfl⟩:∃n:Nat,x=(n:Int):=⟨x.toNat,Y⟩;by_cases a:n=0
 .subst a;exact RA w
 .obtain⟨b,d⟩:=Lib.lowest_bit 64 n a Y;obtain⟨hi,c⟩:=Lib.deBruijn64_at _ d;rw[V9];refine RB n _ _ w Vd (Kw n _ Y a b) hi d ?_;rw[e _ hi,c]
theorem NS(x:Int)(b:x<18446744073709551616):Lib.ctz 64 x.toNat<=64:=by
 by_cases a:x.toNat=0
 .rw[a];exact VP _
 .exact Xp (Lib.lowest_bit 64 x.toNat a Y).2
def NT(x:Int):Int:=IntKind.u64.wrap (bits BinOp.and IntKind.u64 (x/2) 6148914691236517205+bits BinOp.and IntKind.u64 x 6148914691236517205)
def NU(x:Int):Int:=IntKind.u64.wrap (bits BinOp.and IntKind.u64 (x/4) 3689348814741910323+bits BinOp.and IntKind.u64 x 3689348814741910323)
def NV(x:Int):Int:=bits BinOp.and IntKind.u64 (IntKind.u64.wrap (x/16+x)) 1085102592571150095
def NW(x:Int):Int:=IntKind.u64.wrap (x+x/256)
def NY(x:Int):Int:=IntKind.u64.wrap (x+x/65536)
def NZ(x:Int):Int:=IntKind.u64.wrap (x+x/4294967296)
def pw(x:Int):Int:=bits BinOp.and IntKind.i64 (wrap64 (NZ (NY (NW (NV (NU (NT x))))))) 127
theorem Ee(x:Int):0<=pw x/\pw x<=127:=by
 unfold pw;generalize wrap64 (NZ (NY (NW (NV (NU (NT x))))))=a;have h:bits BinOp.and IntKind.i64 a 127=IntKind.i64.wrap ((BitVec.ofInt 64 a&&&BitVec.ofInt 64 127).toNat:Int):=rfl;grind[Nat.and_le_right,IntKind.wrap_i64]
def Gt(x:Int)(w:Yw):fX 238 #[V Yr x] w (V O (pw x)):=by
 obtain⟨c,e1⟩:∃y,y=NT x:=⟨_,U⟩;obtain⟨d,e2⟩:∃y,y=NU c:=⟨_,U⟩;obtain⟨e,e3⟩:∃y,y=NV d:=⟨_,U⟩;obtain⟨f,e4⟩:∃y,y=NW e:=⟨_,U⟩;obtain⟨g,e5⟩:∃y,y=NY f:=⟨_,U⟩;obtain⟨h,b⟩:∃y,y=NZ g:=⟨_,U⟩;have i:pw x=bits BinOp.and IntKind.i64 (wrap64 h) 127:=by rw[b,e5,e4,e3,e2,e1];rfl
 generalize pw x=R at *;change Hid _ at e1 e2 e3 e4 e5 b i;go_enter func238,ntmps238;go_upto_region 1 with fail
 go_cut [0,3,4,5,6,7,8] (λz _ _ _ _ _ _ a=>z= V Yr c/\w=a)
 case first =>
  go_wp2_with fail;go_meet;exact⟨by rw[e1.out];rfl,U⟩
 case rest=>
 obtain⟨rfl,rfl⟩:=hcut;go_upto_region 2 with fail
 go_cut [0,9,10,11,12,13,14] (λz _ _ _ _ _ _ a=>z= V Yr d/\w=a)
 case first =>
  go_wp2_with fail;go_meet;exact⟨by rw[e2.out];rfl,U⟩
 case rest=>
 obtain⟨rfl,rfl⟩:=hcut;go_upto_region 3 with fail
 go_cut [0,15,16,17,18,19] (λz _ _ _ _ _ a=>z= V Yr e/\w=a)
 case first =>
  go_wp2_with fail;go_meet;exact⟨by rw[e3.out];rfl,U⟩
 case rest=>
 obtain⟨rfl,rfl⟩:=hcut;go_upto_region 4 with fail
 go_cut [0,20,21,22,23] (λz _ _ _ _ a=>z= V Yr f/\w=a)
 case first =>
  go_wp2_with fail;go_meet;exact⟨by rw[e4.out];rfl,U⟩
 case rest=>
 obtain⟨rfl,rfl⟩:=hcut;go_upto_region 5 with fail
 go_cut [0,24,25,26,27] (λz _ _ _ _ a=>z= V Yr g/\w=a)
 case first =>
  go_wp2_with fail;go_meet;exact⟨by rw[e5.out];rfl,U⟩
 case rest=>
 obtain⟨rfl,rfl⟩:=hcut;go_upto_region 6 with fail
 go_cut [0,28,29,30,31] (λz _ _ _ _ a=>z= V Yr h/\w=a)
 case first =>
  go_wp2_with fail;go_meet;exact⟨by rw[b.out];rfl,U⟩
 case rest=>
 obtain⟨rfl,rfl⟩:=hcut;go_wp2;go_ret;exact⟨by rw[i.out];rfl,U⟩
def dG(wd:Bool)(k:Nat)(a:Int):Int:=
 if k=0 then 64 - (Lib.bitLen a.toNat:Int) - (64 - (wN wd:Int))
 else if k=1 then min (Lib.ctz 64 a.toNat:Int) (wN wd:Int)
 else pw a
def sR(b:Bool)(a:Int):dG b 0 a=64 - (Lib.bitLen a.toNat:Int) - (64 - (wN b:Int)):=Vg
theorem sS(b:Bool)(a:Int):dG b 1 a=min (Lib.ctz 64 a.toNat:Int) (wN b:Int):=Vg
theorem sT(b:Bool)(a:Int):dG b 2 a=pw a:=by unfold dG;rw[Va Vb,Va Vb]
def Gu(c:Bool)(a:Int)(w:Yw)(f:0<=a)(e:a<18446744073709551616):
  fX 202 #[wV c,V Yr a] w (V O (dG c 0 a)):=by
 have hl:=Gs a w f e;have h:=qs a e;have d:=sR c a;generalize dG c 0 a=R at *;generalize Lib.bitLen a.toNat=n at *;cases c
 .have g:IntKind.i64.wrap (64 - (n:Int)-32)=64 - (n:Int)-32:=by rw[IntKind.wrap_i64];omega
  have b:R=64 - (n:Int)-32:=d;subst b;clear d;unfold wV;go_enter func202,ntmps202;exact qt
 .have g:IntKind.i64.wrap (64 - (n:Int)-0)=64 - (n:Int):=by rw[IntKind.wrap_i64];omega
  have b:R=64 - (n:Int):=d.trans (by show 64 - (n:Int) - (64-64)=_;omega);subst b;clear d;unfold wV;go_enter func202,ntmps202;exact qt
def Ac{P:Prop}(h:P:=by
 subst hR';clear hR;unfold wV;go_enter func203,ntmps203;go_wp2_with fail;refine hl.cJ ?_;go_wp2;all_goals
  go_ret
  exact⟨by simp <;>omega,U⟩):P:=h
def Gw(b:Bool)(a:Int)(w:Yw)(d:0<=a)(c:a<18446744073709551616)(e:nz w):
  fX 203 #[wV b,V Yr a] w (V O (dG b 1 a)):=by
 have hl:=Ed a w d c e;have f:=NS a c;have hR:=sS b a;generalize dG b 1 a=R at *;generalize Lib.ctz 64 a.toNat=n at *;cases b
 .have hR':R=min (n:Int) 32:=hR;exact Ac
 .have hR':R=min (n:Int) 64:=hR;exact Ac
def Kx(b:Bool)(a:Int)(w:Yw):
  fX 204 #[wV b,V Yr a] w (V O (dG b 2 a)):=by
 have hl:=Gt a w;rw[sT];generalize pw a=n at hl⊢;generalize wV b=v;go_enter func204,ntmps204;exact qt
def acy(k:Nat):Nat:=match k with
 |0=>202
 |1=>203
 |_=>204
def N0(c:Bool)(k:Nat)(f:k<3)(a:Int)(b:Yw)(d:0<=a)(e:a<18446744073709551616)(g:nz b):Yy prog (acy k) #[wV c,V Yr a] b λr h=>r= Yq (V O (dG c k a))/\h=b:=by
 match k,f with
 |0,_=>exact Gu c a b d e
 |1,_=>exact Gw c a b d e g
 |2,_=>exact Kx c a b
def Gx(b:Bool)(k:Nat)(d:k<3)(a:Int)(c:Yw)(e:0<=a)(f:a<18446744073709551616)(g:nz c):df 172 #[wV b,V Ys k,V Yr a] c (V Yr (IntKind.u64.wrap (dG b k a))) λh=>Kp no c h:=by
 have i:=λW (h:Kp no c W)=>N0 b k d a W e f (g.kp h id)
 generalize dG b k a=R at *;generalize wV b=v at *;go_enter func172,ntmps172;go_upto_region 2 with fail
 rcases(by omega :k=0\/k=1\/k=2)with rfl |rfl |rfl
 all_goals
  go_wp2_with fail;refine(i _ ((Kp.refl no c).alloc _)).cJ ?_;go_wp2;go_ret;exact⟨Vc,oO⟩
def fe:Nat->Nat->Nat
 |0,_=>0
 |n+1,x=>x%2+fe n (x/2)
def lu(a b x:Nat):fe (a+b) x=fe a x+fe b (x/2^a):=by
 induction a generalizing x with
 |zero=>simp[fe]
 |succ a ih=>
  grind[fe,Nat.div_div_eq_div_mul]
def od(n x:Nat):fe n x<=n:=by
 induction n generalizing x with
 |zero=>exact VP _
 |succ n ih=>grind[fe]
def N2(n:Nat):fe n 0=0:=by
 induction n with
 |zero=>rfl
 |succ n ih=>grind[fe]
def N5(n x:Nat):fe (n+1) x=fe n x+x/2^n%2:=by
 rw[lu];rfl
def Ky(h:k<2^n):fe (n+m) k=fe n k:=by
 simp_all[lu,Xj,N2]
def px(k x c m:Nat)(a:c<2^k):x&&&(c+2^k*m)=(x%2^k&&&c)+2^k*(x/2^k&&&m):=by
 have b:(x%2^k&&&c)<2^k:=Xe Nat.and_le_right a;apply Nat.eq_of_testBit_eq;intro i;rw[WL c,WL (x%2^k&&&c),Nat.testBit_and,Xt _ a,Xt _ b];grind
def mA:Nat->Nat|0=>0|n+1=>1+2^2*mA n
def mB:Nat->Nat|0=>0|n+1=>3+2^4*mB n
def mC:Nat->Nat|0=>0|n+1=>15+2^8*mC n
def tA:Nat->Nat->Nat|0,_=>0|n+1,x=>(x%2+x/2%2)+4*tA n (x/4)
def tB:Nat->Nat->Nat|0,_=>0|n+1,x=>(x%4+x/4%4)+16*tB n (x/16)
def tC:Nat->Nat->Nat|0,_=>0|n+1,x=>(x%16+x/16%16)+256*tC n (x/256)
def tP:Nat->Nat->Nat|0,_=>0|n+1,x=>fe 8 x+256*tP n (x/256)
def Ad(x k:Nat):x&&&(2^k-1)=x%2^k:=Nat.and_two_pow_sub_one_eq_mod x k
def stA(n x:Nat):(x/2&&&mA n)+(x&&&mA n)=tA n x:=by
 induction n generalizing x with
 |zero=>simp[mA,tA]
 |succ n ih=>
  have h:=ih (x/4);have a:=Ad (x/2%2^2) 1;have b:=Ad (x%2^2) 1;have e:x/2/2^2=x/4/2:=Y
  show(x/2&&&(1+2^2*mA n))+(x&&&(1+2^2*mA n))=(x%2+x/2%2)+4*tA n (x/4)
  rw[px 2 _ 1 _ Vb,px 2 _ 1 _ Vb,e,<-h];grind
def stB(n x:Nat):(x/4&&&mB n)+(x&&&mB n)=tB n x:=by
 induction n generalizing x with
 |zero=>simp[mB,tB]
 |succ n ih=>
  have h:=ih (x/16);have a:=Ad (x/4%2^4) 2;have b:=Ad (x%2^4) 2;have e:x/4/2^4=x/16/4:=Y
  show(x/4&&&(3+2^4*mB n))+(x&&&(3+2^4*mB n))=(x%4+x/4%4)+16*tB n _
  rw[px 4 _ 3 _ Vb,px 4 _ 3 _ Vb,e,<-h];grind
def Nib:Nat->Nat->Prop|0,x=>x=0|n+1,x=>x%16<=4/\x/16%16<=4/\Nib n (x/256)
def I0(h:Nib n k):k%16<=4:=by
 cases n with
 |zero=>have:k=0:=h;omega
 |succ n=>exact h.1
def stC(n x:Nat)(b:Nib n x):(x/16+x)&&&mC n=tC n x:=by
 induction n generalizing x with
 |zero=>simp[mC,tC]
 |succ n ih=>
  obtain⟨c,d,a⟩:=b;have h:=ih _ a;have f:=I0 a;have g:=Ad ((x/16+x)%2^8) 4;have i:=We x 16 16;have e:(x/16+x)/2^8=x/256/16+x/256:=Y
  show(x/16+x)&&&(15+2^8*mC n)=(x%16+x/16%16)+256*tC n _
  rw[px 8 _ 15 _ Vb,e,h];grind
def tAB(n x:Nat):Nib n (tB (n*2) (tA (n*4) x))/\tC n (tB (n*2) (tA (n*4) x))=tP n x:=by
 induction n generalizing x with
 |zero=>exact⟨U,U⟩
 |succ n ih=>
  have h:=ih (x/256);have g:tA ((n+1)*4) x=(x%2+x/2%2)+4*((x/4%2+x/8%2)+4*((x/16%2+x/32%2)+4*((x/64%2+x/128%2)+4*tA (n*4) (x/256)))):=by
   have e:(n+1)*4=n*4+1+1+1+1:=Y
   rw[e];simp only[tA,We]
  have k:fe 8 x=x%2+(x/2%2+(x/4%2+(x/8%2+(x/16%2+(x/32%2+(x/64%2+x/128%2)))))):=by
   simp only[fe,We,VU]
  rw[show tP (n+1) x=fe 8 x+256*tP n (x/256)from U,<-h.2,k];replace h:=h.1;generalize tA _ x=y at g⊢;generalize tA (n*4) _=l at g h⊢;obtain⟨p,a,m⟩:∃p,x%2+x/2%2=p/\p<=2:=⟨_,U,Y⟩;obtain⟨q,b,o⟩:∃p,x/4%2+x/8%2=p/\p<=2:=⟨_,U,Y⟩;obtain⟨r,c,t⟩:∃p,x/16%2+x/32%2=p/\p<=2:=⟨_,U,Y⟩;obtain⟨s,d,u⟩:∃p,x/64%2+x/128%2=p/\p<=2:=⟨_,U,Y⟩;have f:x%2+(x/2%2+(x/4%2+(x/8%2+(x/16%2+(x/32%2+(x/64%2+x/128%2))))))=p+q+r+s:=by
   rw[<-a,<-b,<-c,<-d];simp only[VR]
  rw[a,b,c,d]at g;rw[f];clear f a b c d k ih;have j:tB ((n+1)*2) y=(y%4+y/4%4)+16*((y/16%4+y/64%4)+16*tB (n*2) (y/256)):=by
   have e:(n+1)*2=n*2+1+1:=Y
   rw[e];simp only[tB,We]
  have e:y/256=l/\y%4=p/\y/4%4=q/\y/16%4=r/\y/64%4=s:=Y
  clear g;rw[e.1,e.2.1,e.2.2.1,e.2.2.2.1,e.2.2.2.2]at j;clear e;generalize tB _ y=z at j⊢;generalize tB (n*2) l=v at j h⊢;have i:z/256=v/\z%16=p+q/\z/16%16=r+s:=Y
  refine⟨⟨Y,Y,i.1▸h⟩,?_⟩;show(z%16+z/16%16)+256*tC n _=_
  rw[i.1,i.2.1,i.2.2];simp only[VR]
def tP8(x:Nat):∃a b c b3 b4 d b6 e:Nat,a<=8/\b<=8/\c<=8/\b3<=8/\b4<=8/\d<=8/\b6<=8/\e<=8/\
  tP 8 x=a+256*(b+256*(c+256*(b3+256*(b4+256*(d+256*(b6+256*e))))))/\fe 64 x=a+b+c+b3+b4+d+b6+e:=by
 refine⟨fe 8 x,fe 8 (x/256),fe 8 (x/256/256),fe 8 (x/256/256/256),fe 8 (x/256/256/256/256),fe 8 (x/256/256/256/256/256),fe 8 (x/256/256/256/256/256/256),fe 8 (x/256/256/256/256/256/256/256),od _ _,od _ _,od _ _,od _ _,od _ _,od _ _,od _ _,od _ _,?_,?_⟩
 .show fe 8 x+256*(_+256*(_+256*(_+256*(_+256*(_+256*(_+256*(_+256*0)))))))=_
  rfl
 .rw[lu 8 56,lu 8 48,lu 8 40,lu 8 32,lu 8 24,lu 8 16,lu 8 8];simp only[VR]
def Ua(n x:Nat):tA n x<4^n:=by
 induction n generalizing x with
 |zero=>exact XF 0
 |succ n ih=>have:=ih (x/4);show x%2+x/2%2+4*tA n (x/4)<4^(n+1);rw[VO];omega
def aa7(n x:Nat):tB n x<16^n:=by
 induction n generalizing x with
 |zero=>exact XF 0
 |succ n ih=>have:=ih (x/16);show x%4+x/4%4+16*tB n _<16^(n+1);rw[VO];omega
def RD(x:Nat)(c:x<18446744073709551616):NT x=(tA 32 x:Nat):=by
 have h:=stA 32 x;have d:=Ua 32 x;have e:mA 32=6148914691236517205:=rfl;have e2:x/2=((x/2:Nat):Int):=rfl;rw[e]at h;have a:=bits_and_u64_nat (x/2) 6148914691236517205 Y Vb;have b:=bits_and_u64_nat x 6148914691236517205 Y Vb;have e3:((6148914691236517205:Nat):Int)=6148914691236517205:=rfl;rw[e3]at a b;unfold NT;rw[e2,a,b,IntKind.wrap_u64];generalize x/2&&&6148914691236517205=p at *;generalize x&&&6148914691236517205=q at *;omega
def RE(x:Nat)(c:x<18446744073709551616):NU x=(tB 16 x:Nat):=by
 have h:=stB 16 x;have d:=aa7 16 x;have e:mB 16=3689348814741910323:=rfl;have e2:x/4=((x/4:Nat):Int):=rfl;rw[e]at h;have a:=bits_and_u64_nat (x/4) 3689348814741910323 Y Vb;have b:=bits_and_u64_nat x 3689348814741910323 Y Vb;have e3:((3689348814741910323:Nat):Int)=3689348814741910323:=rfl;rw[e3]at a b;unfold NU;rw[e2,a,b,IntKind.wrap_u64];generalize x/4&&&3689348814741910323=p at *;generalize x&&&3689348814741910323=q at *;omega
def UE(n x:Nat)(h:Nib n x):x/16+x<256^n:=by
 induction n generalizing x with
 |zero=>have:x=0:=h;subst this;exact XF 0
 |succ n ih=>
  obtain⟨b,c,a⟩:=h;have d:=ih _ a;have f:=I0 a;have g:=We x 16 16;have e:(x/16+x)/256=x/256/16+x/256:=Y
  rw[VO];generalize 256^n=N at *;omega
def RF(x:Nat)(a:Nib 8 x):NV x=(tC 8 x:Nat):=by
 have h:=stC 8 x a;have c:=UE 8 x a;have e:mC 8=1085102592571150095:=rfl;have e2:IntKind.u64.wrap (x/16+x)=((x/16+x:Nat):Int):=by rw[IntKind.wrap_u64];omega
 rw[e]at h;have b:=bits_and_u64_nat _ 1085102592571150095 Y Vb;have e3:((1085102592571150095:Nat):Int)=1085102592571150095:=rfl;rw[e3]at b;unfold NV;rw[e2,b,h]
def acz(x:Nat)(c:x<9223372036854775808):bits BinOp.and IntKind.i64 (x:Int) 127=((x%128:Nat):Int):=by
 have h:bits BinOp.and IntKind.i64 _ 127=IntKind.i64.wrap ((BitVec.ofInt 64 x&&&BitVec.ofInt 64 127).toNat:Int):=rfl;have a:(BitVec.ofInt 64 x).toNat=x:=by
  rw[BitVec.ofInt_natCast,BitVec.toNat_ofNat];exact VT Y
 have b:(BitVec.ofInt 64 127).toNat=2^7-1:=rfl;rw[h,BitVec.toNat_and,a,b,Ad,IntKind.wrap_i64];omega
def I1{x:Nat}(h:x=a+m*r)(b:a<m):x/m=r:=by
 rw[h,XV _ _ Y,Xj b,Vv]
def Ae(x:Nat)(k:x<18446744073709551616):pw x=(fe 64 x:Nat):=by
 have t:=tAB 8 x;obtain⟨h,g,f,b3,b4,c,b6,b,u,v,w,z,A,B,C,D,e,l⟩:=tP8 x;unfold pw;rw[RD x k,RE _ (Ua 32 x),RF _ t.1,t.2,l,e];clear e l t k;obtain⟨j,e4,g4⟩:∃y,NW (h+256*(g+256*(f+256*(b3+256*(b4+256*(c+256*(b6+256*b)))))):Nat)=((y:Nat):Int)/\y=(h+g)+256*((g+f)+256*((f+b3)+256*((b3+b4)+256*((b4+c)+256*((c+b6)+256*((b6+b)+256*b)))))):=by
  refine⟨_,?_,U⟩;unfold NW;rw[IntKind.wrap_u64];omega
 rw[e4];clear e4;obtain⟨i,e5,g5⟩:∃y,NY j=((y:Nat):Int)/\y=(h+g+f+b3)+256*((g+f+b3+b4)+256*((f+b3+b4+c)+256*((b3+b4+c+b6)+256*((b4+c+b6+b)+256*((c+b6+b)+256*((b6+b)+256*b)))))):=by
  refine⟨_,?_,U⟩;have d:=I1 (m:=65536) (a:=(h+g)+256*(g+f)) (r:=(f+b3)+256*((b3+b4)+256*((b4+c)+256*((c+b6)+256*((b6+b)+256*b))))) (x:=j) Y Y;have e:j/65536=((j/65536:Nat):Int):=rfl;unfold NY;rw[IntKind.wrap_u64,e,d];clear d e;omega
 rw[e5];clear e5 g4;obtain⟨n,o,p,q⟩:∃y,NZ i=((y:Nat):Int)/\y%128=h+g+f+b3+b4+c+b6+b/\y<9223372036854775808:=by
  have d:=I1 (m:=4294967296) (a:=(h+g+f+b3)+256*((g+f+b3+b4)+256*((f+b3+b4+c)+256*(b3+b4+c+b6)))) (r:=(b4+c+b6+b)+256*((c+b6+b)+256*((b6+b)+256*b))) (x:=i) Y Y;have e:i/4294967296=((i/4294967296:Nat):Int):=rfl;refine⟨i+i/4294967296,?_,?_,?_⟩
  .unfold NZ;rw[IntKind.wrap_u64,e,d];clear d e;omega
  .rw[d];have s:i+((b4+c+b6+b)+256*((c+b6+b)+256*((b6+b)+256*b)))=(h+g+f+b3+b4+c+b6+b)+128*(2*((g+f+b3+b4)+256*((f+b3+b4+c)+256*((b3+b4+c+b6)+256*((b4+c+b6+b)+256*((c+b6+b)+256*((b6+b)+256*b))))))+2*((c+b6+b)+256*((b6+b)+256*b))):=Y
   rw[s,XD,VT Y]
  .rw[d];clear d e;omega
 have d:wrap64 n=n:=by unfold wrap64;omega
 rw[o,d,acz _ q,p]
end
section
open Go.RowKit
open Go.Maps (Keyed)
def lX(m:List (Int×Int))(k v:Int):List (Int×Int):=if (look m k).isSome then m.map (λp=>if p.1=k then (k,v)else p)else m++[(k,v)]
def uX(p:Int×Int)(m:List (Int×Int))(k:Int):look (p::m) k=if p.1=k then M p.2 else look m k:=by
 unfold look;grind
def PR(m:List (Int×Int))(p:Int×Int)(k:Int):look (m++[p]) k=match look m k with |some v=>M v|none=>if p.1=k then M p.2 else none:=by
 grind[look]
def PT(m:List (Int×Int))(k v a:Int):look (m.map (λp=>if p.1=k then (k,v)else p)) a=if a=k then (look m k).map (λ_=>v)else look m a:=by
 induction m with
 |nil=>simp[look]
 |cons q m ih=>
  rw[WA,uX,uX,uX,ih];grind
theorem Fb(m:List (Int×Int))(k v a:Int):look (lX m k v) a=if a=k then M v else look m a:=by
 unfold lX;split
 .rename_i h;rw[PT];grind[Option.isSome_iff_exists]
 .rename_i h;have b:look m k=none:=Vh
  rw[PR];grind
theorem rW(m:List (Int×Int))(k v:Int):(lX m k v).length=if (look m k).isSome then m.length else m.length+1:=by
 grind[lX]
theorem LF.put{D:DataW Unit}{m:List (Int×Int)}(h:LF D m)(b:Maps.Tidy D)(c:Maps.IsMap D){v:Int}(d:WideAt.IsKeyLit (.int .i64 y)):LF (D.put (.int .i64 y) (.lit (.int .i64 v))) (lX m y v):=by
 obtain⟨f,g⟩:=h;refine⟨?_,λa=>?_⟩
 .grind[Maps.size_put,rW]
 .rw[Fb];by_cases e:a=y<;>simp_all[Maps.has_put_same,Maps.atKey_put_same,Maps.has_put_other,Maps.atKey_put_other]
def LQ{P:Program}{R:Yx->Option (DataW Unit×List MemPlace)}{D:DataW Unit}(h:W.ownsMap P T R b n D):W.ownsMap P T R b (Maps.size D) D:=by
 obtain⟨a,c,e,F,f,d⟩:=h;refine⟨a,c,e,F,?_,d⟩;rw[d];have:∀(l:List (Lit×DataW Unit)),(l.foldr DataW.insert []).length=l.length:=by
  intro l;induction l with
  |nil=>rfl
  |cons x l ih=>grind[length_insert]
 show a.size<=((a.toList.map (WideElems.rg P T R)).foldr DataW.insert []).length
 grind
end
section
open Go.RowKit
def A4{e:Option Addr}{x3 x4 x5 gv kv:Yx}(f:W.heap[k]?=M (Yl #[v,aj i,u,x3,x4,x5] 172))(g:W.heap[i]?=M (Yl #[Q e n t,gv,kv] 125))
  (p:n<=1000000)(q:a<4294967296)(r:b<4294967296)(s:j<=8)(d:n<a+b+j):
  fX 200 #[aj k,V Yr a,V Yr b,V Yr j] W (Yu #[Q H 0 0,Yt Yj]):=by
 obtain⟨h,-⟩:=ae f;obtain⟨l,-⟩:=ae g;have m:IntKind.u64.wrap ((a:Int)+(b:Int))=((a+b:Nat):Int):=by rw[IntKind.wrap_u64];omega
 obtain⟨c,o⟩:=uh (a+b);rw[o]at m d;have w:IntKind.u64.wrap ((c:Int)+(j:Int))=(c:Int)+(j:Int):=by rw[IntKind.wrap_u64];omega
 have x:IntKind.u64.wrap (n:Int)=(n:Int):=by rw[IntKind.wrap_u64];omega
 go_enter func200,ntmps200;go_wp2;go_ret2;exact⟨U,U⟩
def Ff{x3 x4 x5 gv kv:Yx}(e:W.heap[k]?=M (Yl #[v,aj i,u,x3,x4,x5] 172))(f:W.heap[i]?=M (Yl #[Q (M ⟨t,0,H⟩) n j,gv,kv] 125))
  (s:n<=1000000)(g:n<=j)(w:a<4294967296)(x:b<4294967296)(h:0<q)(y:q<=8)(d:a+b+q<=n):
  Yy prog 200 #[aj k,V Yr a,V Yr b,V Yr q] W λr l=>(∃c,r= Yq (Yu #[Q (M ⟨t,a+b,H⟩) q c,Yt Yk])/\q<=c)/\l=W:=by
 obtain⟨m,-⟩:=ae e;obtain⟨l,-⟩:=ae f;have o:IntKind.u64.wrap ((a:Int)+(b:Int))=((a+b:Nat):Int):=by rw[IntKind.wrap_u64];omega
 obtain⟨c,p⟩:=uh (a+b);rw[p]at o d⊢;have r:IntKind.u64.wrap ((c:Int)+(q:Int))=((c+q:Nat):Int):=by rw[IntKind.wrap_u64];omega
 have z:IntKind.u64.wrap (n:Int)=(n:Int):=by rw[IntKind.wrap_u64];omega
 go_enter func200,ntmps200;go_wp2;go_ret2;exact⟨⟨j-c,by first |rfl |(rw[V8];rfl),Y⟩,U⟩
def A5{f:Option Addr}{x4 x5 gv kv:Yx}(a:W.heap[k]?=M (Yl #[v,aj i,u,z,x4,x5] 172))(d:W.heap[i]?=M (Yl #[Q f n b,gv,kv] 125))(m:n<=1000000):
  fX 168 #[aj k] W (V Yr ((n/64:Nat):Int)):=by
 obtain⟨g,-⟩:=ae a;obtain⟨h,-⟩:=ae d;have j:IntKind.i64.wrap (Int.tdiv (n:Int) 64)=((n/64:Nat):Int):=by rw[show Int.tdiv (n:Int) 64=((n/64:Nat):Int)from(Int.ofNat_tdiv n 64).symm,IntKind.wrap_i64];omega
 obtain⟨c,e⟩:=uh (n/64);rw[e]at j⊢;have l:(n:Int)/64=(c:Int):=Y
 have o:IntKind.u64.wrap (c:Int)=(c:Int):=by rw[IntKind.wrap_u64];omega
 clear a d e;go_enter func168,ntmps168;go_wp2;go_ret;exact⟨U,U⟩
def mG(s:Mc)(p k:Nat):UInt8:=s.mem.getD (p+k) 0
def fF(s:Mc)(p:Nat):Nat->Nat
 |0=>0
 |k+1=>fF s p k|||(mG s p k).toNat*2^(8*k)%18446744073709551616
theorem JA(s:Mc)(p k:Nat):fF s p k<18446744073709551616:=by
 induction k with
 |zero=>simp[fF]
 |succ k ih=>
  rw[fF];exact WT (x:=fF s p k) (n:=64) ih (Wn _ Vb)
def SC(x:UInt8)(n k:Nat)(a:n<18446744073709551616):Go.bits BinOp.or IntKind.u64 (n:Int) (IntKind.u64.wrap ((x.toNat:Int)*2^(8*k)))=((n|||x.toNat*2^(8*k)%18446744073709551616:Nat):Int):=by
 have e:((x.toNat:Int)*2^(8*k))=((x.toNat*2^(8*k):Nat):Int):=Vc
 rw[e,su,bits_or_u64_nat _ _ a (Wn _ Vb)]
def fD(s:Mc)(num:Nat):Bool:=decide (0<s.stack.length)&&decide (0<=aU s)&&decide (aU s<4294967296)&&decide (num<4294967296)&&decide (s.mem.length<=1000000)
def iy(s:Mc)(num z:Nat):Option (Nat×Mc):=
 if fD s num=Yj then H
 else if s.mem.length<(aU s).toNat+num+z then M (4,aI s)
 else M (0,dM (aI s) (fF s ((aU s).toNat+num) z))
def Hj(v:Int):Int:=eE Yj (IntKind.u64.wrap (IntKind.i8.wrap v))
def Uj(sg:Bool)(s:Mc)(num z:Nat):Option (Nat×Mc):=
 if fD s num=Yj then H
 else if s.mem.length<(aU s).toNat+num+z then M (4,aI s)
 else M (0,dM (aI s) (cond sg (Hj (fF s ((aU s).toNat+num) z)) (fF s ((aU s).toNat+num) z)))
section
variable{E:gX}{w:World}{s:Mc}
def Fg(h:cg E w s)(hs:s.stack.length<=1000000000){z:Nat}(X:0<z)(hz:z<=8){sg:Bool}(h9:((x.op.toNat:Int)==44)=sg){s':Mc}(c:Uj sg s x.num z=M (t,s')):
  df 166 #[aj E.mb,ey x,V Yr z] w (V O t) λb=>cg E b s'/\Kp (gj E) w b:=by
 unfold Uj at c;split at c
 .cases c
 rename_i y;simp only[fD,WE,Vo,Vx]at y;obtain⟨⟨⟨⟨h0,h1⟩,h2⟩,A⟩,B⟩:=y;obtain⟨a,C⟩:∃a:Nat,aU s=(a:Int):=⟨(aU s).toNat,Y⟩;have D:=h.l8;have F:=h.box (cR x);have d:=cP (F.quiet ((Kp.refl no _).drew)) h0 hs;have o:((w.alloc (cR x)).drew).heap[w.heap.size]?=M (cR x):=ai _ _;rw[C]at c d;rw[show((a:Int)).toNat=a by omega]at c;have h3:=Z (λn W=>j4 Yj n W);have R:=Z c;have G:a<4294967296:=Y
 clear h F c C h1 h2;change Hid _ at o D;replace d:=Z d;go_enter func166,ntmps166;go_wp2_with fail;refine rj 12 12 (λb=>b.cell? ⟨w.heap.size,1,H⟩=M (V Yr x.num)) ?hS λhS=>?_
 case hS=>exact(ae o).1 1
 refine tj 0 ?_;refine tj 1 ?_;refine tj 3 ?_;iterate 2 refine tn ?_
 refine oj 2 λK n=>?_
 refine sc d ?_;rintro e w1⟨rfl,I,S⟩;have J:=S.az o (λh=>h (Yp U));refine⟨_,U,n _ _ ((ae J).1 1) (λhS=>?_)⟩;clear n K;simp only[pS];obtain⟨sv,cv,q,-⟩:=I.open;obtain⟨mv,gv,b,⟨k0,k1,L,N⟩,-,i,-⟩:=I.pT;have W:(aI s).mem=s.mem:=rfl;rw[W]at L N i;subst L;have j:=q;have l:=b;have HF:=Z (I.free D);have K1:=Z (dz ((((Kp.refl no w).alloc (cR x)).drew.any).trans S));have h4:=Vk (eO s) hs;have h5:=λv=>gx HF v h4
 have h6:=Z h5;obtain⟨k2,-⟩:=ae J;by_cases m:s.mem.length<a+x.num+z
 .have c:=R.out;rw[Vi m]at c;simp only[Vu,V6]at c;obtain⟨rfl,rfl⟩:=c;have f:=A4 j l B G A hz m;clear q b i j l I S R d;refine oj 6 λK n=>?_
  refine sc f ?_;rintro e w2⟨rfl,rfl⟩;refine⟨_,U,n _ _ hS (λhS=>?_)⟩;clear n K;simp only[pS];refine tj 7 ?_;iterate 4 refine tn ?_
  refine dj ?_;clear hS f;go_wp2;go_ret;exact⟨U,HF,K1⟩
 .have c:=R.out;rw[Va m]at c;simp only[Vu,V6]at c;obtain⟨rfl,r⟩:=c;obtain⟨-,⟨k3,k4⟩|⟨g,k5,k6,h7,-⟩⟩:=id i
  .omega
  cases h7;have f:=Ff j l B N G A X hz Y;obtain⟨p,hp⟩:=uh (a+x.num);rw[hp]at f r m;have v:∀k,k<z->w1.cell? ⟨g,p+k,H⟩=M (V Ys (mG s p k).toNat):=by
   intro k hk;obtain⟨a',o',c',P,-,T⟩:=aw.get (aw.own i) (k:=p+k) (x:= V Ys (mG s p k).toNat) (by
    have u:p+k<s.mem.length:=Y
    simp[aP,mG,List.getD,u])
   cases P;rw[Vv]at T;exact T
  clear q b i j l I S R d hp;change Hid _ at v r;refine oj 6 λK n=>?_
  refine sc f ?_;rintro e w2⟨⟨c2,rfl,k7⟩,rfl⟩;refine⟨_,U,n _ _ hS (λhS=>?_)⟩;clear n K;simp only[pS];refine tj 7 ?_;iterate 4 refine tn ?_
  refine dj ?_;clear hS f;go_wp2;go_loopw [9,26] (λu n wr=> ∃k:Nat,k<=z/\n= V O k/\u= V Yr (fF s p k)/\wr=w2) (λ_ n _=>z - (intOf n).toNat);case atStart=>exact⟨0,Y,U,U,U⟩
  case round=>
   obtain⟨k,hk,rfl,rfl,rfl⟩:=hrel;by_cases h8:k<z
   .have T:=v k h8;have b:=SC (mG s p k) (fF s p k) k (JA s p k);have K:fF s p (k+1)=fF s p k|||(mG s p k).toNat*2^(8*k)%18446744073709551616:=rfl;rw[<-K]at b;obtain⟨cb,P⟩:=uh (mG s p k);rw[P]at T b;obtain⟨v1,n⟩:=uh (fF s p k);obtain⟨v2,u⟩:=uh (fF s p (k+1));rw[n,u]at b;rw[n];have k8:IntKind.i64.wrap (8*(k:Int))=8*(k:Int):=by rw[IntKind.wrap_i64];omega
    have k9:IntKind.u64.wrap (cb.toNat:Int)=(cb.toNat:Int):=by have:=cb.toNat_lt;rw[IntKind.wrap_u64];omega
    clear P n K;change Hid _ at u b;go_wp2;go_roundw;case rel=>exact⟨k+1,Y,by go_num,by rw[b.out,u.out],trivial⟩
    case measure=>simp[intOf];omega
   .obtain rfl :k=z:=Y
    cases sg;all_goals
     go_wp2_with fail;try
      refine(h3 _ _).cJ ?_;go_wp2_with fail
     refine(h6 _).bw ?_;rintro T⟨n,u⟩;have K:=Z n;have P:=Z u;go_wp2;go_ret;rw[<-r.out];exact⟨U,K,K1.trans P⟩
def Hk(h:cg E w s)(f:s.stack.length<=1000000000)(a:0<n)(g:n<=8)(b:x.op≠44){c:Mc}(i:iy s x.num n=M (t,c)):
  df 166 #[aj E.mb,ey x,V Yr n] w (V O t) λd=>cg E d c/\Kp (gj E) w d:=
 Fg h f a g (sg:=Yj) (by simp;intro e;exact b (by apply Vp.1;simp;omega)) i
end
def tN(m:List UInt8)(p v:Nat):Nat->List UInt8
 |0=>m
 |k+1=>(tN m p v k).set (p+k) (UInt8.ofNat (v/2^(8*k)))
theorem yn(m:List UInt8)(p v k:Nat):(tN m p v k).length=m.length:=by
 induction k with
 |zero=>rfl
 |succ k ih=>grind[tN]
def ei(s:Mc)(num z:Nat):Option (Nat×Mc):=
 if s.stack.length<2\/aU s<0\/18446744073709551616<=aU s\/fD (aI s) num=Yj then H
 else if s.mem.length<(aU (aI s)).toNat+num+z then M (4,aI (aI s))
 else M (0,{aI (aI s)with mem:=tN s.mem ((aU (aI s)).toNat+num) (aU s).toNat z})
def A6(v k:Nat):IntKind.u8.wrap ((v:Int)/2^(8*k))=(((UInt8.ofNat (v/2^(8*k))).toNat:Nat):Int):=by
 rfl
section
variable{E:gX}{w:World}{s:Mc}
def Hl(h:cg E w s)(hs:s.stack.length<=1000000000)(k6:0<n)(hz:n<=8){s':Mc}(c:ei s x.num n=M (t,s')):
  df 167 #[aj E.mb,ey x,V Yr n] w (V O t) λd=>cg E d s'/\Kp (gj E) w d:=by
 unfold ei at c;split at c
 .cases c
 rename_i S;have k7:(aI s).stack.length=s.stack.length-1:=by unfold aI;simp
 have T:fD (aI s) x.num=true:=by
  cases a:fD (aI s) x.num with
  |true=>rfl
  |false=>exact absurd (Yp (Yp (Yp a))) S
 simp only[fD,Vo,Vx]at T;obtain⟨⟨⟨⟨k8,k9⟩,w0⟩,X⟩,q⟩:=T;have h0:(aI s).mem=s.mem:=rfl;rw[h0]at q;obtain⟨v,A⟩:∃v:Nat,aU s=(v:Int):=⟨(aU s).toNat,Y⟩;obtain⟨a,B⟩:∃a:Nat,aU (aI s)=(a:Int):=⟨(aU (aI s)).toNat,Y⟩;have h1:a<4294967296:=Y
 have C:=h.l8;have h2:=h.box (cR x);have j:=cP h2 Y hs;have f:∀W,cg (E.plus (λb=>b=w.heap.size)) W (aI s)->df 73 #[aj E.mb] W (V Yr (aU (aI s))) λd=>cg (E.plus (λb=>b=w.heap.size)) d (aI (aI s))/\Kp (gj (E.plus (λb=>b=w.heap.size))) W d:=λW e=>cP e k8 Y
 have W:(w.alloc (cR x)).heap[w.heap.size]?=M (cR x):=ai _ _;rw[A,B]at c;rw[A]at j;rw[B]at f;rw[show((a:Int)).toNat=a by omega,show((v:Int)).toNat=v by omega]at c;obtain⟨l,r⟩:=uh (aI (aI s));have D:l.mem=s.mem:=by rw[<-r];rfl
 rw[r,<-D]at c;rw[r]at f;rw[<-D]at q;have HM:=Z c;clear h h2 c B A k9 w0 S h0 D r k7;change Hid _ at f W C;replace j:=Z j;go_enter func167,ntmps167;go_wp2_with fail;refine j.bw ?_;rintro e0⟨e1,w1⟩;have H1:=Z (e1.quiet ((Kp.refl no e0).drew));have F:=w1.az W (λh=>h (Yp U));clear e1 j;change Hid _ at w1 F;go_wp2_with fail;refine rj 12 12 (λd=>d.cell? ⟨w.heap.size,1,H⟩=M (V Yr x.num)) ?hS λhS=>?_
 case hS=>exact(ae F).1 1
 refine tj 0 ?_;refine tj 1 ?_;refine tj 3 ?_;iterate 2 refine tn ?_
 refine oj 2 λK k=>?_
 refine sc (f _ H1) ?_;rintro e s5⟨rfl,h3,k5⟩;have w2:=k5.az F (λh=>h (Yp U));refine⟨_,U,k _ _ ((ae w2).1 1) (λhS=>?_)⟩;clear k K;simp only[pS];obtain⟨sv,cv,G,-⟩:=h3.open;obtain⟨mv,gv,d,⟨e2,h4,w3,w4⟩,-,I,-⟩:=h3.pT;subst w3;have u:=G;have m:=d;have H2:=Z h3;have K2:=Z ((((Kp.refl no w).alloc (cR x)).any.trans w1).trans ((Kp.refl _ e0).drew.trans k5));by_cases z:l.mem.length<a+x.num+n
 .have c:=HM.out;rw[Vi z]at c;simp only[Vu,V6]at c;obtain⟨rfl,rfl⟩:=c;have i:=A4 u m q h1 X hz z;clear G d I u m h3 k5 HM f;refine oj 6 λK k=>?_
  refine sc i ?_;rintro e e3⟨rfl,rfl⟩;refine⟨_,U,k _ _ hS (λhS=>?_)⟩;clear k K;simp only[pS];refine tj 7 ?_;iterate 4 refine tn ?_
  refine dj ?_;clear hS i;go_wp2;go_ret;exact⟨U,H2.free C,dz K2⟩
 .have c:=HM.out;rw[Va z]at c;simp only[Vu,V6]at c;obtain⟨rfl,J⟩:=c;obtain⟨-,⟨h5,e4⟩|⟨g,e5,e6,w5,-⟩⟩:=id I
  .omega
  cases w5;have i:=Ff u m q w4 h1 X k6 hz Y;obtain⟨p,hp⟩:=uh (a+x.num);rw[hp]at i J z;have e7:p<=1000000:=Y
  clear G d I u h3 k5 HM f hp;change Hid _ at J m;refine oj 6 λK k=>?_
  refine sc i ?_;rintro e e3⟨⟨c2,rfl,e8⟩,rfl⟩;refine⟨_,U,k _ _ hS (λhS=>?_)⟩;clear k K;simp only[pS];refine tj 7 ?_;iterate 4 refine tn ?_
  refine dj ?_;clear hS i;go_wp2;go_loopw [27] (λy wr=> ∃k:Nat,k<=n/\y= V O k/\cg (E.plus (λb=>b=w.heap.size)) wr {l with mem:=tN l.mem p v k}/\Kp (gj (E.plus (λb=>b=w.heap.size))) w wr/\wr.heap[E.sb]?=M (Yl #[Q (M ⟨g,0,H⟩) l.mem.length h4,gv,.map (M E.kb)] 125)) (λy _=>n - (intOf y).toNat);case atStart=>exact⟨0,Y,U,H2,K2,m⟩
  case round=>
   obtain⟨k,hk,rfl,d,K,L⟩:=hrel;by_cases e9:k<n
   .obtain⟨w6,s0,h6,-,-,h7,-,-,-,-,-,⟨-,h8,-,-⟩,-,-,h9,-,-⟩:=d.pT;have w7:w6= Q (M ⟨g,0,H⟩) l.mem.length h4:=by
     have b:=h6.symm.trans L;simp at b;exact b.1
    subst w7;have k0:({l with mem:=tN l.mem p v k}:Mc).mem.length=l.mem.length:=yn _ _ _ _;have b:=h9 wr g (p+k) (UInt8.ofNat (v/2^(8*k))) (Kp.refl no wr) U (by rw[k0];omega);obtain⟨-,⟨h5,-⟩|⟨g',s1,s2,k1,-,hh,k2,-,k3,-⟩⟩:=id h7
    .cases h5
    simp only[Vz,Vu,Xv]at k1;obtain⟨⟨rfl,-⟩,-,rfl⟩:=k1;have w8:∃y,wr.cell? ⟨g,p+k,H⟩=M y:=by
     rw[(ae hh).1,XB (by rw[k3];rw[k0]at k2;omega)];exact⟨_,U⟩
    obtain⟨y,hy⟩:=w8;have s3:=(ae hh).2 (p+k);have w9:E.sb≠g:=λe=>h8 (by show M E.sb=M g;rw[e])
    have N:=aB (o:=p+k) w9 (V Ys ((UInt8.ofNat (v/2^(8*k))).toNat:Nat)) L;have P:=A6 v k;have s4:IntKind.i64.wrap (8*(k:Int))=8*(k:Int):=by rw[IntKind.wrap_i64];omega
    obtain⟨cb,R⟩:=uh (UInt8.ofNat (v/2^(8*k)));have k4:tN l.mem p v (k+1)=(tN l.mem p v k).set (p+k) cb:=by rw[tN,R]
    rw[R]at b N P;clear d L h6 h7 h9 hh k2 k3 R h8;change Hid _ at b N k4 K P;go_wp2;have e:=P.out;rw[IntKind.wrap_u8]at e;rw[e];go_roundw;case rel=>exact⟨k+1,Y,by go_num,by rw[k4.out];exact b.1,K.trans b.2,N⟩
    case measure=>simp[intOf];omega
   .obtain rfl :k=n:=Y
    go_wp2;go_ret;rw[<-J.out];exact⟨U,d.free C,dz K⟩
end
def kO(s:Mc):Option Mc:=
 if s.stack.length=0\/aU s<0\/4294967296<=aU s\/1000000<s.mem.length then H
 else if 4<s.mem.length/64+(aU s).toNat then M (dM (aI s) 4294967295)
 else M (dM {aI s with mem:=s.mem++List.replicate ((aU s).toNat*64) 0} ((s.mem.length/64:Nat):Int))
section
variable{E:gX}{w:World}{s:Mc}
def PV(h:cg E w s)(hs:s.stack.length<=1000000000){s':Mc}(a:kO s=M s'):
  df 169 #[aj E.mb] w (Yu #[]) λe=>cg E e s'/\Kp (gj E) w e:=by
 unfold kO at a;split at a
 .cases a
 rename_i k2;have B:s.mem.length<=1000000:=Y
 obtain⟨m,C⟩:∃m:Nat,aU s=(m:Int):=⟨(aU s).toNat,Y⟩;have k3:m<4294967296:=Y
 obtain⟨sv,cv,D,-⟩:=h.open;obtain⟨mv,gv,F,⟨k4,k6,G,-⟩,-⟩:=h.pT;subst G;have I:=D;have J:=F;have l:=A5 I J B;have n:=cP h Y hs;rw[C]at a n;rw[show((m:Int)).toNat=m by omega]at a;obtain⟨b,hb⟩:=uh (s.mem.length/64);rw[hb]at a l;have k7:b<=20000:=Y
 have o:=Vk (eO s) hs;have k8:IntKind.u64.wrap ((b:Int)+(m:Int))=(b:Int)+(m:Int):=by rw[IntKind.wrap_u64];omega
 go_enter func169,ntmps169;go_wp2_with fail;refine l.bw ?_;rintro j hw;rw[hw];go_wp2_with fail;refine n.bw ?_;rintro j⟨A,k1⟩;by_cases k0:4<b+m
 .have a:=a;rw[Vi k0]at a;simp only[Vu]at a;have d:=gx A 4294967295 o;go_wp2_with fail;refine d.bw ?_;rintro w2⟨L,N⟩;go_wp2;refine bodyPost_ret (results_none U _ _ _) U ?_;rw[<-a];exact⟨U,L,k1.trans N⟩
 .have a:=a;rw[Va k0]at a;simp only[Vu]at a;obtain⟨i0,P,R,T,W⟩:=info_parts lj;obtain⟨X,h0,h1,-⟩:=A.open;obtain⟨k9,h2,p,⟨f,g,h3,-⟩,-,r,-,-,w0,-,-,⟨t,i,-,-⟩,-,-,-,u,-⟩:=A.pT;subst h3;have h4:(aI s).mem=s.mem:=rfl;rw[h4]at r p u t i;have h5:=A.base;have h6:=h1;have v:=p;obtain⟨S,c⟩:=bL (λe=>(∀q,e.cell? ⟨E.mb,q,H⟩=#[aj E.fb,aj E.sb,X,h0,V O s.pos,V O s.aC][q]?)/\(∀q,e.cell? ⟨E.sb,q,H⟩=#[Q f s.mem.length g,h2,.map (M E.kb)][q]?):Yw->Prop);have x:∀e,Kp (λb=>M b=(Value.slice f s.mem.length g).ownBlock) j e->S e:=λe k=>by rw[c];exact⟨(ae (k.az h6 t)).1,(ae (k.az v i)).1⟩
  have h7:∀e,Kp (λb=>M b=(Value.slice f s.mem.length g).ownBlock) j e->e.frozen? ⟨E.sb,0,H⟩=false:=λe k=>(ae (k.az v i)).2 0
  have h8:IntKind.u64.wrap ((m:Int)*64)=((m*64:Nat):Int):=by rw[IntKind.wrap_u64];omega
  obtain⟨q,hq⟩:=uh (m*64);rw[hq]at h8 a;have w1:q<=256:=Y
  go_wp2_with fail;refine rj 16 17 (S) ?hS λhS=>?_
  case hS=>exact x _ fL
  have c:=c;subst c;refine tj 0 ?_;iterate 12 refine tn ?_
  refine oj 13 λK hK=>?_
  refine iY _ Vg _ _ _ _ Vg E.B 5 i0 (V Ys 0) 1 Yr Yr underlying25 underlying38 P R T W U U _ s.mem.length _ Vg (((Kp.refl no j).drew).own r bW) q Vg (by unfold maxLen;omega) Y h5 ?_;intro v1 w5 y z h9;have k5:=((Kp.refl _ _).drew).bS z (λk e=> Yo e.symm);have w3:=h7 _ k5;refine hK _ _ (x _ k5) (λhS=>?_);obtain⟨e,k,rfl⟩:=aA y;refine tj 14 ?_;refine tj 15 ?_;refine ej 16 λK hK=>?_
  go_simp;refine hK _ _ ?_;refine dj ?_;have K:=u j.drew w5 (Q e (s.mem.length+q) k) (s.mem++List.replicate q 0) ((Kp.refl no j).drew) (by
   have e1:(s.mem++List.replicate q (0:UInt8)).length=s.mem.length+q:=Vc
   have e2:aP (s.mem++List.replicate q (0:UInt8))=aP s.mem++List.replicate q (V Ys 0):=by simp[aP]
   rw[e1,e2];exact y) z h9
  obtain⟨L,N⟩:=K;have d:=gx L ((b:Nat):Int) o;generalize World.setCell w5 ⟨E.sb,0,H⟩ (Q e (s.mem.length+q) k)=w2 at *;go_wp2_with fail;refine d.bw ?_;rintro w7⟨w4,w6⟩;go_wp2;go_end0;rw[<-a];exact⟨U,w4,(k1.trans N).trans w6⟩
end
def gR(s:Mc)(x:dQ):Option (Nat×Mc):=
 if x.op=45 then iy s x.num 1
 else if x.op=40 then iy s x.num 4
 else if x.op=41 then iy s x.num 8
 else if x.op=58 then ei s x.num 1
 else if x.op=54 then ei s x.num 4
 else if x.op=55 then ei s x.num 8
 else if x.op=63 then (if s.mem.length<=1000000 then M (0,dM s ((s.mem.length/64:Nat):Int))else H)
 else if x.op=64 then (kO s).map (λs'=>(0,s'))
 else H
section
variable{E:gX}{w:World}{s:Mc}
def Fh(h:cg (E.plus P) w s)(e:s.stack.length<=1000000000)(a:0<n)(f:n<=8)(b:x.op≠44){c:Mc}(g:iy s x.num n=M (t,c)):
  df 166 #[aj E.mb,ey x,V Yr n] w (V O t) λd=>cg (E.plus P) d c/\Kp (gj (E.plus P)) w d:=Hk h e a f b g
def Fi(h:cg (E.plus P) w s)(d:s.stack.length<=1000000000)(a:0<n)(e:n<=8){b:Mc}(f:ei s x.num n=M (t,b)):
  df 167 #[aj E.mb,ey x,V Yr n] w (V O t) λc=>cg (E.plus P) c b/\Kp (gj (E.plus P)) w c:=Hl h d a e f
def LR(h:cg (E.plus P) w s)(c:s.stack.length<=1000000000){a:Mc}(d:kO s=M a):
  df 169 #[aj E.mb] w (Yu #[]) λb=>cg (E.plus P) b a/\Kp (gj (E.plus P)) w b:=PV h c d
def LS(h:cg (E.plus P) w s)(v:Int)(b:s.stack.length<=1000000000):
  df 134 #[aj E.mb,V Yr v] w (Yu #[]) λa=>cg (E.plus P) a (dM s v)/\Kp (gj (E.plus P)) w a:=gx h v b
def Hm(h:cg E w s)(m:s.stack.length<=1000000000){z:Mc}(b:gR s x=M (t,z)):
  df 133 #[aj E.mb,ey x] w (V O t) λA=>cg E A z/\Kp (gj E) w A:=by
 have a:=h.box (cR x);have d:=Z h.l8;have B:=Z ((Kp.refl (gj E) w).alloc (cR x));obtain⟨C,f,g,i,j⟩:=x;unfold gR at b;simp only at b;repeat' split at b
 all_goals try cases b
 all_goals first
  |have n:=Z (Fh (x:=⟨C,f,g,i,j⟩) a m Vb Vb (by simp[*]) b)
  |have n:=Z (Fi (x:=⟨C,f,g,i,j⟩) a m Vb Vb b)
  |(have b:=VX.1 b;obtain⟨K,F,e⟩:=b;cases e;have n:=Z (LR a m F))
  |skip
 rotate_left 6
 .rename_i c o;subst c;obtain⟨L,N,p,-⟩:=a.open;obtain⟨P,gv,q,⟨G,I,r,-⟩,-⟩:=a.pT;subst r;have k:=Z (A5 p q o);have l:=Z (LS a ((s.mem.length/64:Nat):Int) m);obtain⟨R,u⟩:=uh (s.mem.length/64);rw[u]at k l⊢;go_enter func133,ntmps133;go_wp2_with fail;refine k.out.bw ?_;rintro D J;rw[J];go_wp2_with fail;refine l.out.bw ?_;rintro D⟨v,y⟩;go_wp2;go_ret;exact⟨U,v.free d.out,B.out.trans (dz y)⟩
 all_goals
  rename_i c;subst c;try clear b
  go_enter func133,ntmps133;go_wp2_with fail;refine n.out.bw ?_;rintro D⟨v,y⟩;go_wp2;go_ret;exact⟨U,v.free d.out,B.out.trans (dz y)⟩
end
end
section
open Go.RowKit
open Go.Maps (Keyed)
def fJ(s:Mc):Option Mc:=if s.stack.length=0 then H else M (dM (aI s) (IntKind.u64.wrap ((look s.bG (wrap64 (aU s))).getD 0)))
def fK(s:Mc):Option (Nat×Mc):=
 if s.stack.length<2\/900<s.bG.length then H
 else if (look s.bG (wrap64 (aU (aI s)))).isNone/\s.bG.length=8 then M (7,aI (aI s))
 else M (0,{aI (aI s)with bG:=lX s.bG (wrap64 (aU (aI s))) (wrap64 (aU s))})
section
variable{E:gX}{w:World}{s:Mc}
def A7(x:Int):(Lit.int O (wrap64 x)).wf=true:=by
 show(decide (IntKind.i64.min<=wrap64 x)&&decide (wrap64 x<=IntKind.i64.max))=Yk
 rw[show IntKind.i64.min= -9223372036854775808 from U,show IntKind.i64.max=9223372036854775807 from U];unfold wrap64;grind
def PW(x:Int):keyOf prog 2 (.int .i64 (wrap64 x))=some (.int .i64 (wrap64 x)):=Maps.keyOf_int_mk underlying2 (A7 x)
def ve(w:Yw):(zeroValue 2).run prog w=.ok (V O 0) w:=Vc
def Ho(h:cg E w s)(x:s.stack.length<=1000000000){y:Mc}(a:fJ s=M y):
  df 135 #[aj E.mb] w (Yu #[]) λb=>cg E b y/\Kp (gj E) w b:=by
 unfold fJ at a;split at a
 .cases a
 rename_i z;simp only[Vu]at a;have A:=cP h Y x;have f:IntKind.i64.wrap (aU s)=wrap64 (aU s):=by rw[IntKind.wrap_i64];unfold wrap64;rfl
 have b:=PW (aU s);obtain⟨g,i⟩:=uh (wrap64 (aU s));rw[i]at a f b;generalize aU s=G at *;go_enter func135,ntmps135;go_wp2_with fail;refine A.bw ?_;rintro I⟨j,B⟩;obtain⟨J,K,k,-⟩:=j.open;obtain⟨L,gv,l,-,-,-,-,m,-⟩:=j.pT;obtain⟨D,n,o,N,p⟩:=m;obtain⟨C,-⟩:=ae k;obtain⟨F,-⟩:=ae l;have q:=Vk (eO s) x;have r:=λv=>gx j v q
 go_wp2_with(at_lookup;refine wpList_lookup_own_int _ U _ _ 108 U 2 2 O gf underlying108 underlying2 (ve _) E.kb n D U o _ _ U b ?_);intro c d t;have e:c=(look s.bG g).getD 0:=by
  have:=((p).2 g).2;rw[d]at this;change _=DataW.lit (Lit.int O ((look s.bG g).getD 0))at this;simpa using this
 clear d t;change Hid _ at e;go_wp2_with fail;refine(r _).bw ?_;rintro P⟨u,v⟩;change Hid _ at v;replace u:=Z u;go_wp2;go_end0;rw[<-a,<-e.out];exact⟨U,u,B.trans v⟩
def Hq(h:cg E w s)(hs:s.stack.length<=1000000000){s':Mc}(b:fK s=some (t,s')):
  df 136 #[aj E.mb] w (.int .i64 t) λa=>cg E a s'/\Kp (gj E) w a:=by
 unfold fK at b;split at b
 .cases b
 rename_i X;have h4:(aI s).stack.length=s.stack.length-1:=by unfold aI;simp
 have m:=cP h Y hs;have o:=λW (a:cg E W (aI s))=>cP a Y Y
 have W:IntKind.i64.wrap (aU s)=wrap64 (aU s):=by rw[IntKind.wrap_i64];unfold wrap64;rfl
 have h0:IntKind.i64.wrap (aU (aI s))=wrap64 (aU (aI s)):=by rw[IntKind.wrap_i64];unfold wrap64;rfl
 have d:=PW (aU (aI s));have p:=A7 (aU s);have i:WideAt.IsKeyLit (.int .i64 (wrap64 (aU (aI s)))):=by exact True.intro
 obtain⟨N,A⟩:=uh (wrap64 (aU (aI s)));obtain⟨P,B⟩:=uh (wrap64 (aU s));rw[A]at b h0 d i;rw[B]at b W p;clear A B;generalize aU s=t1 at *;generalize aU (aI s)=t2 at *;obtain⟨z,x⟩:=uh (aI (aI s));have C:z.bG=s.bG:=by rw[<-x];rfl
 rw[x]at b o;rw[<-C]at b X;have R:=Z b;clear b h x C;replace i:=Z i;change Hid _ at o d p;replace m:=Z m;go_enter func136,ntmps136;go_wp2_with fail;refine m.bw ?_;rintro w1⟨S,k1⟩;clear m;change Hid _ at k1;replace S:=Z S;go_wp2_with fail;refine(o _ S).bw ?_;rintro T⟨F,k2⟩;obtain⟨sv,cv,G,-⟩:=F.open;obtain⟨mv,gv,I,-,-,-,-,h1,-,-,-,-,-,-,-,-,y⟩:=F.pT;obtain⟨D,n,a,hn,e⟩:=h1;obtain⟨h5,-⟩:=ae G;obtain⟨h6,-⟩:=ae I;have K2:=Z (k1.trans k2);have f:=(e.2 N).1;have h2:=e.1;clear G I k2 o S k1;change Hid _ at y;replace e:=Z e;replace a:=Z a;replace F:=Z F;have J:=a.len underlying108;rw[h2]at J;cases j:look z.bG N with
 |some v0=>
  have b:=R.out;rw[j,Va Vc]at b;simp only[Vu,V6]at b;obtain⟨rfl,rfl⟩:=b;rw[j]at f;have h3:=f;clear f j R;go_wp2_with(at_lookup;refine wpList_lookup_own_ok_int _ U _ _ 108 U 2 2 .i64 gf underlying108 underlying2 (ve _) E.kb n D U a _ _ U d ?_);intro c k l;clear k l;go_wp2_with(at_mapUpdate;refine wpList_mapUpdate_own _ U _ _ _ 108 U 2 2 gf underlying108 _ E.kb n D U a (by unfold maxLen;omega) _ _ _ U U d _ [] (plainElem_int underlying2 p) ?_);intro K q r;have u:fk K E.kb (lX z.bG N P):=by
   have L:=e.put (v:=P) (a.tidy gf) a.isMap i;refine⟨_,_,LQ q,?_,L⟩;rw[L.1,rW];split <;>omega
  have g:=y T K _ (Kp.refl no T) u r;clear q r u;change Hid _ at g;go_wp2;go_ret;exact⟨U,g.1,K2.trans g.2⟩
 |none=>
  have b:=R.out;rw[j]at b f;have h3:=f;clear f j R;by_cases h8:z.bG.length=8
  .rw[Vi ⟨U,h8⟩]at b;simp only[Vu,V6]at b;obtain⟨rfl,rfl⟩:=b;rw[h8]at J;go_wp2_with(at_lookup;refine wpList_lookup_own_ok_int _ U _ _ 108 U 2 2 .i64 gf underlying108 underlying2 (ve _) E.kb n D U a _ _ U d ?_);intro c k l;clear k l;go_wp2_with fail;go_ret;exact⟨U,F,K2⟩
  .rw[Va (λh=>h8 h.2)]at b;simp only[Vu,V6]at b;obtain⟨rfl,rfl⟩:=b;have h7:((z.bG.length:Int)==8)=false:=Vd
   go_wp2_with(at_lookup;refine wpList_lookup_own_ok_int _ U _ _ 108 U 2 2 .i64 gf underlying108 underlying2 (ve _) E.kb n D U a _ _ U d ?_);intro c k l;clear k l;go_wp2_with(at_mapUpdate;refine wpList_mapUpdate_own _ U _ _ _ 108 U 2 2 gf underlying108 _ E.kb n D U a (by unfold maxLen;omega) _ _ _ U U d _ [] (plainElem_int underlying2 p) ?_);intro K q r;have u:fk K E.kb (lX z.bG N P):=by
    have L:=e.put (v:=P) (a.tidy gf) a.isMap i;refine⟨_,_,LQ q,?_,L⟩;rw[L.1,rW];split <;>omega
   have g:=y T K _ (Kp.refl no T) u r;go_wp2;go_ret;exact⟨U,g.1,K2.trans g.2⟩
end
end
section
open Go.RowKit
def fE(f:dH)(s:Mc)(x:dQ):Option (Nat×Mc):=
 if x.op.toNat<=16 then fB f s x
 else if x.op.toNat=26 then (if s.stack.length=0 then H else M (0,aI s))
 else if x.op.toNat=27 then (if s.stack.length<3 then H else M (0,lB s))
 else if x.op.toNat<=36 then (dw s x).map (λs'=>(0,s'))
 else if x.op.toNat<=64 then gR s x
 else if x.op.toNat<=66 then M (0,dM s x.num)
 else if x.op.toNat=224 then (fJ s).map (λs'=>(0,s'))
 else if x.op.toNat=225 then fK s
 else dO s x.op.toNat
section
variable{E:gX}{w:World}{s:Mc}
theorem LU(h:cg E w s)(i:s.aD.length<=16)(f:s.stack.length<=1000000000)(k:s.gl.length<=1000000)(l:E.f.Ok)(j:x.op=16->x.num<1000000){p:Mc}(a:fE E.f s x=M (t,p)):
  df 103 #[aj E.mb,ey x] w (V O t) λc=>cg E c p/\Kp (gj E) w c:=by
 have b:=h.box (cR x);have m:=Z h.l8;unfold fE at a;obtain⟨c,n,q,r,u⟩:=x;simp only at a j;split at a;case' isTrue=>have g:=Z (E8 b i f l j a)
 case' isFalse=>split at a
 case' isFalse.isTrue d=>
  split at a
  .cases a
  cases a;have g:=Z (qI b Y f);obtain rfl :c=26:=Vp.1 d
 case' isFalse.isFalse=>split at a
 case' isFalse.isFalse.isTrue d=>
  split at a
  .cases a
  cases a;have g:=Z (E9 b Y f);obtain rfl :c=27:=Vp.1 d
 case' isFalse.isFalse.isFalse=>split at a
 case' isFalse.isFalse.isFalse.isTrue=>
  obtain⟨v,o,e⟩:=VX.1 a;cases e;have g:=Z (CY b i f k o)
 case' isFalse.isFalse.isFalse.isFalse=>split at a
 case' isFalse.isFalse.isFalse.isFalse.isTrue=>have g:=Z (Hm b f a)
 case' isFalse.isFalse.isFalse.isFalse.isFalse=>split at a
 case' isFalse.isFalse.isFalse.isFalse.isFalse.isTrue=>
  cases a;have g:=Z (tL b (n:Int) f)
 case' isFalse.isFalse.isFalse.isFalse.isFalse.isFalse=>split at a
 case' isFalse.isFalse.isFalse.isFalse.isFalse.isFalse.isTrue d=>
  obtain⟨v,o,e⟩:=VX.1 a;cases e;have g:=Z (Ho b f o);obtain rfl :c=224:=Vp.1 d
 case' isFalse.isFalse.isFalse.isFalse.isFalse.isFalse.isFalse=>split at a
 case' isFalse.isFalse.isFalse.isFalse.isFalse.isFalse.isFalse.isTrue d=>
  have g:=Z (Hq b f a);obtain rfl :c=225:=Vp.1 d
 case' isFalse.isFalse.isFalse.isFalse.isFalse.isFalse.isFalse.isFalse=>have g:=Z (Hg b f a)
 all_goals
  try have v:((c.toNat:Int)==26)=false:=by simp only[Vt];omega
  try have y:((c.toNat:Int)==27)=false:=by simp only[Vt];omega
  try have a3:((c.toNat:Int)==224)=false:=by simp only[Vt];omega
  try have a4:((c.toNat:Int)==225)=false:=by simp only[Vt];omega
  try(first |have e:(c.toNat:Int)<=16:=by omega |have e: ¬(c.toNat:Int)<=16:=by omega)
  try(first |have e:(c.toNat:Int)<=36:=by omega |have e: ¬(c.toNat:Int)<=36:=by omega)
  try(first |have b3:(c.toNat:Int)<=64:=by omega |have b3: ¬(c.toNat:Int)<=64:=by omega)
  try(first |have b4:(c.toNat:Int)<=66:=by omega |have b4: ¬(c.toNat:Int)<=66:=by omega)
  try clear a
  go_enter func103,ntmps103;go_wp2_with fail;refine g.bw ?_;rintro z⟨e,o⟩;go_wp2;go_ret;exact⟨U,e.free m,((Kp.refl _ _).alloc _).trans (dz o)⟩
end
def ep(op:UInt8):Bool:=op !=5&&op !=11
def vg(m:Option (Nat×Mc))(next :Mc->Option (Nat×Mc)):Option (Nat×Mc):=
 match m with
 |none=>H
 |some (t,s)=>if t=0 then next s else M (t,s)
structure Mc.Ok(s:Mc)(N:Nat):Prop where
 st:s.stack.length<=N
 cl:s.aD.length<=16
 gl:s.gl.length<=1000000
 fu:s.aC<=1000000
theorem Mc.Ok.le{s:Mc}(h:s.Ok n)(a:n<=k):s.Ok k:=⟨Vk h.st a,h.cl,h.gl,h.fu⟩
theorem Mc.Ok.fe{s:Mc}(h:s.Ok n):(aI s).Ok n:=⟨Vk (eO s) h.st,h.cl,h.gl,h.fu⟩
theorem Mc.Ok.put{s:Mc}(h:s.Ok n)(v:Int):(dM s v).Ok (n+1):=⟨by unfold dM;simp;exact h.st,h.cl,h.gl,h.fu⟩
def Mc.Ok.abE{s:Mc}(h:s.Ok n)(c:a+b<=s.stack.length):(lV s a b).Ok n:=⟨by unfold lV;simp;have:=h.st;omega,h.cl,h.gl,h.fu⟩
theorem Mc.Ok.nK{s:Mc}(h:s.Ok n)(c:oE s x=Yk):(oR s x).Ok n:=by
 have:=h.abE (a:=(cE s).2.1+x.aH) (b:=x.keep) (pR c).2;exact⟨this.st,this.cl,this.gl,this.fu⟩
def tO{s:Mc}(h:s.Ok n){a:Mc}(b:gy s x=M (t,a)):a.Ok n:=by
 grind[gy,Mc.Ok.nK]
theorem Hr{s:Mc}(h:s.Ok n){d:Mc}(c:fB e s x=M (t,d)):d.Ok (n+1000):=by
 unfold fB at c;split at c
 .grind[Mc.Ok.le]
 split at c
 .grind[Mc.Ok.le]
 split at c
 .split at c
  .cases c
  .split at c
   .exact(tO h.fe c).le Y
   grind[Mc.Ok.le,Mc.Ok.fe]
 split at c
 .exact(tO h c).le Y
 split at c
 .split at c
  .rename_i f;cases c;have:=h.abE (a:=(cE s).1) (b:=s.stack.length - (cE s).2.1) Y;refine⟨Vk this.st Y,?_,this.gl,this.fu⟩;grind[pQ,Mc.Ok.cl]
  .cases c
 split at c
 .split at c
  .cases c
  .split at c
   .grind[Mc.Ok.le,Mc.Ok.fe]
   .exact(tO h.fe c).le Y
 split at c
 .split at c
  .cases c
  .split at c
   .exact(tO h.fe c).le Y
   .cases c
 split at c
 .unfold oF at c;split at c
  .grind[Mc.Ok.le]
  .rename_i f;split at c
   .rename_i g;cases c;refine⟨?_,?_,h.gl,h.fu⟩
    .show(s.stack++List.replicate _ (0:Int)).length<=_
     rw[Vn,V0];have:=h.st;omega
    .show(s.aD++[_]).length<=_
     grind[Mc.Ok.cl]
   .cases c
 .cases c
def Fk{s:Mc}(h:s.Ok n){c:Mc}(a:dw s x=M c):c.Ok (n+1):=by
 unfold dw at a;have b:=h.fe;split at a
 .grind[Mc.Ok.put]
 split at a
 .split at a
  .cases a;exact⟨by simp;have:=b.st;omega,b.cl,b.gl,b.fu⟩
  .cases a
 split at a
 .split at a
  .cases a;have d:Mc.Ok {aI s with stack:=(aI s).stack.set ((cE s).1+x.num) (aU s)} n:=⟨by rw[VW];exact b.st,b.cl,b.gl,b.fu⟩;exact d.put _
  .cases a
 split at a
 .grind[Mc.Ok.put]
 split at a
 .split at a
  .cases a;exact⟨Vk b.st Y,b.cl,(by simp;exact h.gl),b.fu⟩
  .cases a
 .cases a
def LV{s:Mc}(h:s.Ok n){a:Mc}(b:dO s k=M (t,a)):a.Ok (n+1):=by
 grind[dO,eV,eH,Mc.Ok.fe,Mc.Ok.put,Mc.Ok.le]
theorem SD{s:Mc}(h:s.Ok n){b:Mc}(a:fE e s x=M (t,b))
  (d:∀{t b},gR s x=M (t,b)->b.Ok (n+1000))(f:∀{b},fJ s=M b->b.Ok (n+1000))(g:∀{t b},fK s=M (t,b)->b.Ok (n+1000)):b.Ok (n+1000):=by
 unfold fE at a;split at a
 .grind[Hr]
 split at a
 .grind[Mc.Ok.le,Mc.Ok.fe]
 split at a
 .split at a
  .cases a
  .cases a;exact(h.fe.fe.fe.put _).le Y
 split at a
 .cases c:dw s x with
  |none=>grind
  |some i=>rw[c]at a;cases a;exact(Fk h c).le Y
 split at a
 .grind
 split at a
 .grind[Mc.Ok.le,Mc.Ok.put]
 split at a
 .grind[fJ]
 split at a
 .grind
 .exact(LV h a).le Y
theorem LW{s:Mc}(h:s.Ok n){a:Mc}(b:iy s k i=M (t,a)):a.Ok (n+1000):=by
 grind[iy,Mc.Ok.le,Mc.Ok.put,Mc.Ok.fe]
def A9{P:Prop}(h:P:=by
 split at hm
 .cases hm
 split at hm
 .grind[Mc.Ok.le,Mc.Ok.fe]
 .cases hm;exact⟨Vk h.fe.fe.st Y,h.fe.fe.cl,h.fe.fe.gl,h.fe.fe.fu⟩):P:=h
theorem LX{s:Mc}(h:s.Ok n){a:Mc}(hm:ei s k i=M (t,a)):a.Ok (n+1000):=by
 unfold ei at hm;exact A9
theorem SE{s:Mc}(h:s.Ok n){b:Mc}(a:kO s=M b):b.Ok (n+1000):=by
 unfold kO at a;split at a
 .cases a
 split at a
 .grind[Mc.Ok.le,Mc.Ok.put,Mc.Ok.fe]
 .cases a;have c:({aI s with mem:=s.mem++List.replicate ((aU s).toNat*64) 0}:Mc).Ok n:=⟨h.fe.st,h.fe.cl,h.fe.gl,h.fe.fu⟩;grind[Mc.Ok.le,Mc.Ok.put]
theorem LY{s:Mc}(h:s.Ok n){a:Mc}(b:gR s x=M (t,a)):a.Ok (n+1000):=by
 grind[gR,LW,LX,kO,SE,Mc.Ok.le,Mc.Ok.put]
theorem LZ{s:Mc}(h:s.Ok n){a:Mc}(b:fJ s=M a):a.Ok (n+1000):=by
 grind[fJ,Mc.Ok.le,Mc.Ok.put,Mc.Ok.fe]
theorem L0{s:Mc}(h:s.Ok n){a:Mc}(hm:fK s=M (t,a)):a.Ok (n+1000):=by
 unfold fK at hm;exact A9
def L5(a:UInt8)(w:Yw):fX 102 #[V Ys a.toNat] w (Yt (ep a)):=by
 by_cases c:a=5
 .subst c;rw[show ep 5=Yj from U];go_enter func102,ntmps102;go_wp2;go_ret;exact⟨U,U⟩
 by_cases b:a=11
 .subst b;rw[show ep 11=Yj from U];go_enter func102,ntmps102;go_wp2;go_ret;exact⟨U,U⟩
 .have g:ep a=true:=by simp[ep,c,b]
  have f:((a.toNat:Int)==5)=false:=by
   simp only[Vt];exact λe=>c (Vp.1 (by show a.toNat=5;omega))
  have d:((a.toNat:Int)==11)=false:=by
   simp only[Vt];exact λe=>b (Vp.1 (by show a.toNat=11;omega))
  have e: ¬((a.toNat:Int)=5):=by simpa using f
  rw[g];go_enter func102,ntmps102;go_wp2;go_ret;refine⟨?_,U⟩;show Ending.returned (Yt (((a.toNat:Int) !=5)&&((a.toNat:Int) !=11)))=_
  simp[bne,f,d]
def iz(s:Mc)(num:Nat):Option (Nat×Mc):=
 if fD s num=Yj then H
 else if s.mem.length<(aU s).toNat+num+1 then M (4,aI s)
 else M (0,dM (aI s) (Hj (fF s ((aU s).toNat+num) 1)))
section
variable{E:gX}{w:World}{s:Mc}
def Hv(h:cg E w s)(d:s.stack.length<=1000000000)(a:x.op=44){b:Mc}(e:iz s x.num=M (t,b)):
  df 166 #[aj E.mb,ey x,V Yr 1] w (V O t) λc=>cg E c b/\Kp (gj E) w c:=
 Fg h d (z:=1) Vb Vb (sg:=Yk) (by rw[a];rfl) e
end
def gZ(wd:Bool)(k:Nat)(s:Mc):Option (Nat×Mc):=
 if s.stack.length=0\/aU s<0\/18446744073709551616<=aU s then H else M (0,dM (aI s) (IntKind.u64.wrap (dG wd k (aU s))))
def bZ(f:dH)(s:Mc)(x:dQ):Option (Nat×Mc):=
 if x.op=44 then iz s x.num
 else if 103<=x.op.toNat/\x.op.toNat<=105 then gZ Yj (x.op.toNat-103) s
 else if 121<=x.op.toNat/\x.op.toNat<=123 then gZ Yk (x.op.toNat-121) s
 else fE f s x
section
variable{E:gX}{w:World}{s:Mc}
def wR(E:gX)(w:Yw):Prop:=nz w/\E.lo 2
theorem wR.kp{E:gX}{w:Yw}(h:wR E w)(k:Kp (gj E) w W):wR E W:=⟨h.1.kp k (λa=>a h.2),h.2⟩
def Fo(h:cg (E.plus P) w s)(d:s.stack.length<=1000000000)(a:x.op=44){b:Mc}(e:iz s x.num=M (t,b)):
  df 166 #[aj E.mb,ey x,V Yr 1] w (V O t) λc=>cg (E.plus P) c b/\Kp (gj (E.plus P)) w c:=Hv h d a e
def C5(h:cg E w s)(j:s.stack.length<=1000000000)(a:x.op=44){i:Mc}(k:iz s x.num=M (t,i)):
  df 133 #[aj E.mb,ey x] w (V O t) λc=>cg E c i/\Kp (gj E) w c:=by
 have b:=h.l8;have c:=h.box (cR x);have l:Kp (gj E) w (w.alloc (cR x)):=(Kp.refl _ w).alloc _;obtain⟨r,d,e,f,g⟩:=x;simp only at a;subst a;have m:=Fo (x:=⟨44,d,e,f,g⟩) c j U k;go_enter func133,ntmps133;go_wp2_with fail;refine m.bw ?_;rintro u⟨n,o⟩;have p:=n.free b;have q:=l.trans (dz o);go_wp2;go_ret;exact⟨U,p,q⟩
def Be{P:Prop}(h:P:=by
 rcases(by omega :k=0\/k=1\/k=2)with rfl |rfl |rfl
 all_goals
  go_enter func137,ntmps137;go_wp2_with fail;refine t1.bw ?_;rintro f⟨c,a⟩;go_wp2_with fail;refine(c1 _ a).bw ?_;rintro g b;go_wp2_with fail;refine(p1 _ _ (c.quiet b)).bw ?_;rintro i⟨d,e⟩;go_wp2;go_ret;exact⟨U,d,(a.trans b.any).trans e⟩):P:=h
def C6(h:cg E w s)(e:s.stack.length<=1000000000)(g:wR E w)(c:Bool)(k:Nat)(i:k<3){f:Mc}(d:gZ c k s=M (t,f)):
  df 137 #[aj E.mb,V Ys ((if c then 121 else 103)+k:Nat)] w (V O t) λa=>cg E a f/\Kp (gj E) w a:=by
 unfold gZ at d;split at d
 .cases d
 rename_i l;cases d;have t1:=cP h Y e;have p1:=λb W (j:cg E W (aI s))=>gx j b (Vk (eO s) e)
 have c1:∀W,Kp (gj E) w W->df 172 #[wV c,V Ys k,V Yr (aU s)] W (V Yr (IntKind.u64.wrap (dG c k (aU s)))) λa=>Kp no W a:=λW b=>Gx c k i (aU s) W Y Y (g.kp b).1
 generalize IntKind.u64.wrap (dG c k (aU s))=R at *;generalize aU s=a at *;cases c
 .exact Be
 .exact Be
end
section
variable{E:gX}{w:World}{s:Mc}
structure At(E:gX)(w:Yw)(s:Mc)(x:dQ)(sv cv fv gv:Yx)(a o cap:Nat):Prop where
 tH:w.heap[E.mb]?=M (Yl #[aj E.fb,aj E.sb,sv,cv,V O s.pos,V O s.aC] 172)
 mod:w.heap[E.fb]?=M (Yl #[fv,gv,V O E.f.bI,Q (M ⟨a,o,H⟩) E.f.ao.length cap] E.ft)
 cap:E.f.ao.length<=cap
 c0:w.cell? ⟨a,o+s.pos*5,H⟩=M (V Ys x.op.toNat)
 c1:w.cell? ⟨a,o+s.pos*5+1,H⟩=M (V Yr x.num)
 c2:w.cell? ⟨a,o+s.pos*5+2,H⟩=M (V O x.goal)
 c3:w.cell? ⟨a,o+s.pos*5+3,H⟩=M (V O x.aH)
 c4:w.cell? ⟨a,o+s.pos*5+4,H⟩=M (V O x.keep)
def cg.at'(h:cg E w s)(j:s.pos<E.f.ao.length)(k:E.f.ao.getD s.pos bD=x):∃c d e gv a o b,At E w s x c d e gv a o b:=by
 subst k;obtain⟨c,d,f,-⟩:=h.open;obtain⟨e,gv,l,a,o,b,g,rfl,i,-,-,m,c1,c2,c3,c4⟩:=h.ed j;exact⟨c,d,e,gv,a,o,b,f,g,i,m,c1,c2,c3,c4⟩
end
section
variable{E:gX}{w:World}{s:Mc}
theorem Hx(h:cg E w s)(f:s.stack.length<=1000000000)(a:x.op=44){c:Mc}(d:iz s x.num=M (t,c)):
  df 103 #[aj E.mb,ey x] w (V O t) λb=>cg E b c/\Kp (gj E) w b:=by
 have hro:=h.l8;have b:=h.box (cR x);have e:=C5 b f a d;obtain⟨l,g,i,j,k⟩:=x;simp only at e a;subst a;clear h b d;go_enter func103,ntmps103;go_wp2_with fail;refine e.bw ?_;exact qJ
def wR.plus(h:wR E w):wR (E.plus P) w:=⟨h.1,Yo h.2⟩
def Bf(h:cg E w s)(b:wR E w)(z:s.stack.length<=1000000000)(e:Bool)(k:Nat)(u:k<3)(a:x.op.toNat=(if e then 121 else 103)+k){v:Mc}(y:gZ e k s=M (t,v)):
  df 103 #[aj E.mb,ey x] w (V O t) λc=>cg E c v/\Kp (gj E) w c:=by
 have hro:=h.l8;have c:=h.box (cR x);have d:wR E (w.alloc (cR x)):=b.kp ((Kp.refl _ w).alloc _);have f:=C6 c z d.plus e k u y;rw[<-a]at f;have g:103<=x.op.toNat:=by rw[a];split <;>omega
 have i:x.op.toNat<=123:=by rw[a];split <;>omega
 have j:((x.op.toNat:Int)==26)=false:=by simp only[Vt];omega
 have l:((x.op.toNat:Int)==27)=false:=by simp only[Vt];omega
 have m:((x.op.toNat:Int)==224)=false:=by simp only[Vt];omega
 have n:((x.op.toNat:Int)==225)=false:=by simp only[Vt];omega
 have o: ¬((x.op.toNat:Int)<=16):=Y
 have p: ¬((x.op.toNat:Int)<=36):=Y
 have q: ¬((x.op.toNat:Int)<=64):=Y
 have r: ¬((x.op.toNat:Int)<=66):=Y
 obtain⟨F,A,B,C,D⟩:=x;simp only at f j l m n o p q r;clear h c y a g i b d u;go_enter func103,ntmps103;go_wp2_with fail;refine f.bw ?_;exact qJ
def Bg(h:cg E w s)(b:wR E w)(f:s.aD.length<=16)(d:s.stack.length<=1000000000)(g:s.gl.length<=1000000)(i:E.f.Ok)(j:x.op=16->x.num<1000000){e:Mc}(a:bZ E.f s x=M (t,e)):
  df 103 #[aj E.mb,ey x] w (V O t) λc=>cg E c e/\Kp (gj E) w c:=by
 unfold bZ at a;split at a
 .grind[Hx]
 split at a
 .rename_i c;exact Bf h b d Yj (x.op.toNat-103) Y Ve a
 split at a
 .rename_i c;exact Bf h b d Yk (x.op.toNat-121) Y Ve a
 grind[LU]
theorem Ma{a:Mc}(h:s.Ok n)(b:iz s k=M (t,a)):a.Ok (n+1000):=by
 grind[iz,Mc.Ok.le,Mc.Ok.put,Mc.Ok.fe]
theorem P4{b:Bool}{a:Mc}(h:s.Ok n)(c:gZ b k s=M (t,a)):a.Ok (n+1000):=by
 grind[gZ,Mc.Ok.le,Mc.Ok.put,Mc.Ok.fe]
def Fp(h:s.Ok n){a:Mc}(b:bZ e s x=M (t,a)):a.Ok (n+1000):=by
 grind[bZ,Ma,P4,SD,LY,LZ,L0]
end
def l9(f:dH):Nat->Mc->Option (Nat×Mc)
 |0,_=>H
 |n+1,s=>
  if s.aD.length=0 then M (0,s)
  else if s.pos<f.ao.length then
   (if ep (f.ao.getD s.pos bD).op then
    (if s.aC=0 then M (5,{s with pos:=s.pos+1})
    else vg (bZ f {s with pos:=s.pos+1,aC:=s.aC-1} (f.ao.getD s.pos bD)) (l9 f n))
   else vg (bZ f {s with pos:=s.pos+1} (f.ao.getD s.pos bD)) (l9 f n))
  else H
def Hy{s:Mc}{c:Mc}(h:l9 e (k+1) s=M (t,c)):
  (s.aD.length=0/\t=0/\c=s)\/(s.aD.length≠0/\s.pos<e.ao.length/\
   ((ep (e.ao.getD s.pos bD).op=Yk/\s.aC=0/\t=5/\c={s with pos:=s.pos+1})\/
    (ep (e.ao.getD s.pos bD).op=Yk/\s.aC≠0/\ ∃a b,bZ e {s with pos:=s.pos+1,aC:=s.aC-1} (e.ao.getD s.pos bD)=M (a,b)/\((a≠0/\t=a/\c=b)\/(a=0/\l9 e k b=M (t,c))))\/
    (ep (e.ao.getD s.pos bD).op=Yj/\ ∃a b,bZ e {s with pos:=s.pos+1} (e.ao.getD s.pos bD)=M (a,b)/\((a≠0/\t=a/\c=b)\/(a=0/\l9 e k b=M (t,c)))))):=by
 have d:∀{m:Option (Nat×Mc)},vg m (l9 e k)=M (t,c)-> ∃a b,m=M (a,b)/\((a≠0/\t=a/\c=b)\/(a=0/\l9 e k b=M (t,c))):=by
  intro m a;unfold vg at a;grind
 rw[l9]at h;split at h<;>grind
section
variable{E:gX}{w:World}{s:Mc}
def P5(h:cg E w s)(R:wR E w)(B:E.f.Ok){K:Nat}(hs:s.Ok i)(hN:i+1000*K<=1000000000){s':Mc}(hm:l9 E.f K s=some (t,s')):
  df 72 #[aj E.mb] w (.int .i64 t) λN=>cg E N s'/\Kp (gj E) w N:=by
 have b:=Z h;replace R:=Z R;clear h;replace hN:=Z hN;change Hid _ at hm B hs;go_enter func72,ntmps72;go_wp2;go_loopg [] K (λk wr=> ∃d c,cg E wr d/\d.Ok c/\c+1000*k<=1000000000/\Kp (gj E) w wr/\l9 E.f k d=some (t,s'));case atStart=>exact⟨s,i,b.out,hs.out,hN.out,Kp.refl _ _,hm.out⟩
 case round=>
  obtain⟨d,c,C,T,hM,h5,X⟩:=hrel;obtain⟨k,e5⟩:∃k,gk=k+1:=by
   cases gk with
   |zero=>cases X
   |succ k=>exact⟨k,U⟩
  subst e5;obtain⟨sv,cv,h0,-,⟨k3,k4,rfl,-⟩,-,-,-,-,-,-,-⟩:=C.open;obtain⟨h6,k5⟩:=ae h0;have h7:=Z C;have HK:=Z h5;have f:=Z T;have k6:=T.cl;replace hM:=Z hM;rcases Hy X with⟨h1,D,g⟩|⟨h1,h8,z⟩
  .rw[h1]at h6;clear C h5 h0 T X h1 k6 k5;change Hid _ at D g;go_wp2;go_ret;rw[D.out,g.out];exact⟨U,h7.out,HK.out⟩
  .obtain⟨n,hn⟩:∃n,d.aD.length=n+1:=⟨d.aD.length-1,Y⟩;rw[hn]at h6;obtain⟨x,hx⟩:∃x,E.f.ao.getD d.pos bD=x:=⟨_,U⟩;rw[hx]at z;have h9:x.op=16->x.num<1000000:=by
    rw[<-hx,Vl,Vj h8];exact B.out.nm _ (XH _)
   obtain⟨x0,x1,fv,gv,a,o,e6,r⟩:=C.at' h8 hx;have k7:wr.heap[E.mb]?=some (.cells #[aj E.fb,aj E.sb,sv,.slice k3 (n+1) k4,.int .i64 d.pos,.int .i64 d.aC] 172):=by rw[<-hn];exact h0
   obtain⟨S,F⟩:∃S:World->Prop,S=λN=>(∀q,N.cell? ⟨E.mb,q,none⟩=#[aj E.fb,aj E.sb,sv,.slice k3 (n+1) k4,.int .i64 d.pos,.int .i64 d.aC][q]?)/\(∀q,N.cell? ⟨E.fb,q,none⟩=#[fv,gv,.int .i64 E.f.bI,.slice (some ⟨a,o,none⟩) E.f.ao.length e6][q]?)/\N.cell? ⟨a,o+d.pos*5,none⟩=some (.int .u8 x.op.toNat)/\N.cell? ⟨a,o+d.pos*5+1,none⟩=some (.int .u64 x.num)/\N.cell? ⟨a,o+d.pos*5+2,none⟩=some (.int .i64 x.goal)/\N.cell? ⟨a,o+d.pos*5+3,none⟩=some (.int .i64 x.aH)/\N.cell? ⟨a,o+d.pos*5+4,none⟩=some (.int .i64 x.keep):=⟨_,U⟩
   have h2:∀W',Kp no wr W'->S W':=λW' k=>by rw[F];exact⟨(ae (k.az k7 (λh=>h))).1,(ae (k.az r.mod (λh=>h))).1,k.aY r.c0,k.aY r.c1,k.aY r.c2,k.aY r.c3,k.aY r.c4⟩
   have e7:=r.cap;have k8:=Z F;have e8:d.pos<E.f.ao.length:=h8;have e9:=B.out.nc;have s0:IntKind.i64.wrap ((d.pos:Int)+1)=((d.pos+1:Nat):Int):=by rw[IntKind.wrap_i64];omega
   clear C h5 h0 k7 r F X T k5 hx e9 hn h1 k6;change Hid _ at h2 z h9;go_wp2_with fail;refine rj 14 15 (S) ?hS λhS=>?_
   case hS=>exact h2.out _ ((Kp.refl _ _).drew)
   have F:=k8.out;subst F;refine tj 0 ?_;iterate 12 refine tn ?_
   refine oj 13 λK hK=>?_
   go_simp;refine hK _ _ (h2.out _ (((Kp.refl _ _).drew).alloc _)) (λhS=>?_);clear hK K;refine ej 14 λK hK=>?_
   go_simp;refine hK _ _ ?_;clear hK K hS h2 k8 h6;refine dj ?_;have kW:Kp no wr (wr.alloc (cR x)).drew:=((Kp.refl _ _).alloc _).drew;have k9:((wr.alloc (cR x)).drew).heap[wr.heap.size]?=some (cR x):=ai _ _;have w0:=h7.out.quiet kW;generalize(wr.alloc (cR x)).drew=W at *;obtain⟨s1,s2,w1,-,-,-,-,-,-,-,-,-,-,w2,-⟩:=w0.open;have w3:W.heap[E.mb]?=some (.cells #[aj E.fb,aj E.sb,s1,s2,.int .i64 d.pos,.int .i64 d.aC] 172):=w1;obtain⟨s3,s4⟩:=ae w3;have w4:wr.heap.size≠E.mb:=λe=>by have:=h7.out.LH;omega
   obtain⟨h3,k2⟩:=w2 W (d.pos+1) (Kp.refl no W);have A:(W.setCell ⟨E.mb,4,none⟩ (.int .i64 ((d.pos+1:Nat):Int))).heap[wr.heap.size]?=some (cR x):=aB w4 _ k9;have H2:=Z h3;have K2:=Z k2;have w5:=Z A;clear w0 w1 w3 w2 h3 k2 A k9;change Hid _ at kW;go_upto_region 4 with fail
   have ec:((d.pos+1:Nat):Int)=(d.pos:Int)+1:=Y
   have h3:=H2.out;have k2:=K2.out;have A:=w5.out;rw[ec]at h3 k2 A;clear H2 K2 w5 ec;generalize World.setCell W ⟨E.mb,4,none⟩ (.int .i64 ((d.pos:Int)+1))=w6 at *;obtain⟨s5,s6,w7,-,-,-,-,-,-,-,-,-,-,-,w8,-⟩:=h3.open;have w9:w6.heap[E.mb]?=some (.cells #[aj E.fb,aj E.sb,s5,s6,.int .i64 ((d.pos+1:Nat):Int),.int .i64 d.aC] 172):=w7;obtain⟨e0,x2⟩:=ae w9;obtain⟨x3,-⟩:=ae A;have j:=L5 x.op w6;have KA:=Z ((HK.out.trans kW.out.any).trans k2);clear s3 s4 k2 w7 w9 e8 e7 s0;change Hid _ at w8;replace j:=Z j;replace h3:=Z h3;rcases z.out with⟨hb,h4,D,g⟩|⟨hb,h4,t1,s7,u,l⟩|⟨hb,t1,s7,u,l⟩
   .rw[hb]at j;rw[h4]at e0;clear hb h4 z;change Hid _ at D g;go_wp2_with fail;refine j.out.cJ ?_;go_wp2;go_ret;rw[D.out,g.out];exact⟨U,h3.out,KA.out⟩
   .rw[hb]at j;obtain⟨P,k0⟩:∃P,d.aC=P+1:=⟨d.aC-1,Y⟩;obtain⟨e1,e4⟩:=w8.out w6 P (Kp.refl no w6);have e3:({d with pos:=d.pos+1,aC:=d.aC-1}:Mc)={d with pos:=d.pos+1,aC:=P}:=by rw[k0];rfl
    rw[e3]at u;have s8:P<=1000000:=by have:=f.out.fu;omega
    have x4:(((P:Int)+1)==0)=false:=by simp only[Vt];omega
    have x5:wrap64 (P:Int)=P:=by unfold wrap64;omega
    have G:Mc.Ok ({d with pos:=d.pos+1,aC:=P}:Mc) c:=⟨f.out.st,f.out.cl,f.out.gl,s8⟩;have p:=Bg e1 (R.out.kp (KA.out.trans e4)) f.out.cl (Vk f.out.st (by have:=hM.out;omega)) f.out.gl B.out h9.out u;have I:=Fp G u;rw[k0]at e0;have e2:(World.setCell w6 ⟨E.mb,5,none⟩ (.int .i64 P)).heap[wr.heap.size]?=some (cR x):=aB w4 _ A;obtain⟨x6,-⟩:=ae e2;clear e1 G u e3 h4 k0 hb z e2;change Hid _ at I l e4;replace p:=Z p;rcases l.out with⟨v,D,g⟩|⟨v,J⟩
    .obtain⟨m,k1⟩:∃m,t1=m+1:=⟨t1-1,Y⟩;subst k1;clear v l;change Hid _ at D g;go_wp2_with fail;refine j.out.cJ ?_;go_wp2_with fail;refine p.out.bw ?_;rintro s9⟨y,L⟩;have K4:=Z ((KA.out.trans e4.out).trans L);clear L;replace y:=Z y;go_wp2;go_ret;rw[D.out,g.out];exact⟨U,y.out,K4.out⟩
    .subst v;clear l;change Hid _ at J;go_wp2_with fail;refine j.out.cJ ?_;go_wp2_with fail;refine p.out.bw ?_;rintro s9⟨y,L⟩;have K4:=Z ((KA.out.trans e4.out).trans L);clear L;replace y:=Z y;go_wp2;go_roundg k;case measure=>omega
     case rel=>exact⟨s7,c+1000,y.out,I.out,by have:=hM.out;omega,K4.out,J.out⟩
   .rw[hb]at j;have e1:=h3.out;have G:Mc.Ok ({d with pos:=d.pos+1}:Mc) c:=⟨f.out.st,f.out.cl,f.out.gl,f.out.fu⟩;have p:=Bg e1 (R.out.kp KA.out) f.out.cl (Vk f.out.st (by have:=hM.out;omega)) f.out.gl B.out h9.out u;have I:=Fp G u;clear e1 G u hb z;change Hid _ at I l;replace p:=Z p;rcases l.out with⟨v,D,g⟩|⟨v,J⟩
    .obtain⟨m,k1⟩:∃m,t1=m+1:=⟨t1-1,Y⟩;subst k1;clear v l;change Hid _ at D g;go_wp2_with fail;refine j.out.cJ ?_;go_wp2_with fail;refine p.out.bw ?_;rintro s9⟨y,L⟩;have K4:=Z (KA.out.trans L);clear L;replace y:=Z y;go_wp2;go_ret;rw[D.out,g.out];exact⟨U,y.out,K4.out⟩
    .subst v;clear l;change Hid _ at J;go_wp2_with fail;refine j.out.cJ ?_;go_wp2_with fail;refine p.out.bw ?_;rintro s9⟨y,L⟩;have K4:=Z (KA.out.trans L);clear L;replace y:=Z y;go_wp2;go_roundg k;case measure=>omega
     case rel=>exact⟨s7,c+1000,y.out,I.out,by have:=hM.out;omega,K4.out,J.out⟩
end
end
end Go.Proofs.YtdeplgkhmebalaaGreatDoor
