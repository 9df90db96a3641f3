/- The numbers under which the program holds the library's lock, and that it holds it. -/
import Derived.Conc.RwLib
import Derived.Conc.MuLone
import Derived.Test.YtdeplgkhmebalaaGreatDoorP03
import Derived.Test.YtdeplgkhmebalaaGreatDoorRows
import Derived.ProofKit
import Derived.OpenShut
import Derived.Deep.DeepHandedRow
import Derived.Lay
import Derived.LaidMore
import Derived.Laws.CopyOwn
import Derived.Lib.SlBytesConst
import Derived.Shelf.SlMaps.Copy
import Derived.Shelf.SlIterI.Nil
import Derived.Shelf.SortM.Plain
import Derived.Shelf.SortM.SortNone
set_option linter.all false
set_option maxHeartbeats 8000000
set_option maxRecDepth 100000
variable{W:Go.World}{k a t j B d m o r:Nat}{v u:Go.Value}{y:Int}{l:List UInt8}{L:List Int}{g:UInt8}{F:List Go.Value}{S P R:Nat->Prop}
namespace Go.Proofs.YtdeplgkhmebalaaGreatDoor
open Bool renaming false->Yj,true->Yk
open Except renaming error->Ym,ok->Yn
open Go renaming Calls->Yy,Value->Yx,World->Yw
open Go.Ending renaming returned->Yq
open Go.IntKind renaming i64->O,u64->Yr,u8->Ys
open Go.Obj renaming cells->Yl
open Go.Value renaming bool->Yt,int->V,pointer->Yv,slice->Q,tuple->Yu
open Option renaming none->H,some->M
open Or renaming inl->Yo,inr->Yp
open Proofs.Tryz
variable{E e:Bd}{G A:dH}{C J:Mc}{K:nt}
section
abbrev aan:Go.Conc.Locks.MuLink:={lock:=47,unlock:=48,ilock:=67,iunlock:=68,lockSlow:=98,unlockSlow:=101,disable:=94,enable:=96,acquire:=97,relMerge:=99,cas32:=95,add32:=100,tMutex:=107,tIMutex:=105,tPMutex:=166,tPIMutex:=202,tPI32:=204,tUP:=206,tNoCopy:=103,tU32:=101}
def nR:Go.Conc.Locks.MuLib prog aan:=
 ⟨func47,func48,func67,func68,func94,func96,func97,func99,func95,func100,underlying105,Tryz.runUnderlying105,Tryz.sizeOf105,Tryz.isAgg105,zeroValue105,underlying107,Tryz.runUnderlying107,Tryz.sizeOf107,Tryz.isAgg107,zeroValue107,underlying166,Tryz.runUnderlying166,Tryz.sizeOf166,Tryz.isAgg166,zeroValue166,underlying202,Tryz.runUnderlying202,Tryz.sizeOf202,Tryz.isAgg202,zeroValue202,underlying204,Tryz.runUnderlying204,Tryz.sizeOf204,Tryz.isAgg204,zeroValue204,underlying206,Tryz.runUnderlying206,Tryz.sizeOf206,Tryz.isAgg206,zeroValue206,underlying103,Tryz.runUnderlying103,Tryz.sizeOf103,Tryz.isAgg103,zeroValue103,underlying21,Tryz.runUnderlying21,Tryz.sizeOf21,Tryz.isAgg21,zeroValue21,Vf⟩
end
section
open Go.RowKit
def G3:(Tryz.prog.info? 138).map (λi=>(i.zero,i.size,i.bytes))=M (M (.agg #[Q H 0 0,Q H 0 0]),2,48):=Vf
section
variable{I:iO}{w:World}{s:l7}
def EJ{n:Nat->Nat}{gv jB cv:Yx}{m:List Pc}{t:List Pd}(h:cy I w s n v gv u jB cv m t){w3 w5:Yw}(y:Kp (one I.rb) w w3)(z:kC w3 I.rb I.dv I.D j){pv rv:Yx}{r:List UInt8}
  (P:aq w3 pv l)(R:aq w3 rv r)(np:∀b,pv.ownBlock=M b->w.heap.size<=b/\b<w3.heap.size)(nr:∀b,rv.ownBlock=M b->w.heap.size<=b/\b<w3.heap.size)(o:Kp no w3 W)
  {v1:Yx}(S:a=s.types.length+1)(A:F=m.flatMap lz++[pv,rv])
  (B:w5.ownsRow I.B 138 2 v1 a F)(p:W.grownBy w5 v.ownBlock)(C:v1.ownBlock=v.ownBlock\/v1.ownBlock=M W.heap.size):
  jd I (w5.setCell ⟨I.kb,1,H⟩ v1) {s with i:=j,types:=s.types++[(l,r)]}/\Kp (oX I) w (w5.setCell ⟨I.kb,1,H⟩ v1):=by
 subst S A;obtain⟨g,T⟩:=bL (λk=>if k<w.heap.size then n k else if pv.ownBlock=M k\/rv.ownBlock=M k then 0 else 4:Nat->Nat);have K:cy I w s g v gv u jB cv m t:=h.mM (λk d=>Ve);have c:=(K.zU y z).quiet o;have h0:=y.size;have h1:=o.size;have L:∀b,pv.ownBlock=M b->g b=0:=λb f=>Ve
 have N:∀b,rv.ownBlock=M b->g b=0:=λb f=>Ve
 have k:∀b,v1.ownBlock=M b->g b=4:=by
  intro b f;rcases C with e|e
  .grind[cy.r4]
  grind
 have k4:Kp (λb=>(λr=>r=3\/r=4) _) W w5:=(Kp.refl _ W).bS p (λb f=> Yo (Yp (c.r4 b f)));have d:Kp _ W (w5.setCell ⟨I.kb,1,H⟩ v1):=k4.bE (Yo c.r3) _ _;have D:w5.heap[I.kb]?=M _:=(p.block I.kb (au c.look) (λe=>by grind[cy.r4,cy.r3])).trans c.look;have ho:(w5.setCell ⟨I.kb,1,H⟩ v1).ownsRow I.B 138 2 v1 _ _:=
  ((Kp.refl _ w5).bK _ _).own B (λb f (e:b=I.kb)=>by grind[cy.r3])
 have kF:Kp (oX I) w _:=((K.Lu (X:=λr=>r=1) (y.mono (λb _ (e:b=I.rb)=>by grind[cy.r1])) Vb).trans o.any).trans (c.Lu (X:=λr=>r=3\/r=4) d Vb);have E:=aw.Uy (X:=λr=>r=3\/r=4) (P.kp o bW) d Vb (q:=W.heap.size) (λb f=>⟨L b f,Ve⟩);have G:=aw.Uy (X:=λr=>r=3\/r=4) (R.kp o bW) d Vb (q:=W.heap.size) (λb f=>⟨N b f,Ve⟩);refine⟨⟨g,v1,gv,u,jB,cv,m++[((l,r),pv,rv)],t,?_⟩,kF⟩;refine⟨Vk c.base d.size,(c.DV (X:=λr=>r=3\/r=4) d Vb Vb:),heap_setCell D _,(c.nV (X:=λr=>r=3\/r=4) d Vb:),?_,(c.pN (X:=λr=>r=3\/r=4) d Vb:),(c.rQ (X:=λr=>r=3\/r=4) d Vb:),(c.vT (X:=λr=>r=3\/r=4) d Vb:),(c.jD (X:=λr=>r=3\/r=4) d Vb:),?_,c.Lt,?_,c.zf (X:=λr=>r=3\/r=4) d Vb,c.r1,c.r2,c.r3,k,c.r5,c.r6,c.r7,c.r8,?_,c.zg (X:=λr=>r=3\/r=4) d,c.low,c.CK,?_,c.Jn⟩
 .grind[lz]
 .simp[h.Lr]
 .intro x J;rcases VS.1 J with e|e
  .exact c.CL (X:=λr=>r=3\/r=4) d Vb x e
  .simp only[Wv]at e;subst e;exact⟨E,G⟩
 .intro x J;rcases VS.1 J with e|e
  .exact c.CM (X:=λr=>r=3\/r=4) d x e
  .simp only[Wv]at e;subst e;have:=d.size;exact⟨λb f=>⟨L b f,Ve⟩,λb f=>⟨N b f,Ve⟩⟩
 grind[Nat.le_trans,cy.M0,iO.hBC,cy.base]
def jd.Sl(h:jd I w s):∃a e gv,w.heap[I.kb]?=M (Yl #[aj I.rb,a,gv,aj I.mb] 182)/\(∃c b,a= Q c s.types.length b)/\M I.kb≠a.ownBlock/\(∀W,Kp (one I.rb) w W->W.ownsRow I.B 138 2 a s.types.length e)/\
  ∀c W f j g l p r d n m,Kp (one I.rb) w c->kC c I.rb I.dv I.D j->aq c g p->aq c l r->(∀b,g.ownBlock=M b->w.heap.size<=b/\b<c.heap.size)->(∀b,l.ownBlock=M b->w.heap.size<=b/\b<c.heap.size)->Kp no c W->
   n=s.types.length+1->m=e++[g,l]->f.ownsRow I.B 138 2 d n m->W.grownBy f a.ownBlock->(d.ownBlock=a.ownBlock\/d.ownBlock=M W.heap.size)->
   jd I (f.setCell ⟨I.kb,1,H⟩ d) {s with i:=j,types:=s.types++[(p,r)]}/\Kp (oX I) w (f.setCell ⟨I.kb,1,H⟩ d):=by
 obtain⟨q,a,gv,u,t,v,o,x,h⟩:=h;refine⟨a,o.flatMap lz,gv,h.look,aA h.types,λe=>?_,λW k=>k.own h.types (λb y (e:b=I.rb)=>?_),λc W f j g l p r d n m b c a3 a4 d a6 e f g j k b3=>EJ h b c a3 a4 d a6 e f g j k b3⟩
 .grind[cy.r4,cy.r3]
 grind[cy.r4,cy.r1]
def jd.Sg(h:jd I w s)(b:Nat)(a:I.dv.ownBlock=M b):b<w.heap.size:=by
 obtain⟨c,f,gv,g,d,i,e,j,h⟩:=h;exact Vm (I.MZ b (h.CK b a)) h.base
def jd.abm(h:jd I w s):I.kb<w.heap.size:=by
 obtain⟨a,d,gv,e,b,f,c,g,h⟩:=h;exact au h.look
def jd.acD(h:jd I w s):I.rb<w.heap.size:=by
 obtain⟨a,d,gv,e,b,f,c,g,h⟩:=h;exact au h.rd.az
theorem jd.base(h:jd I w s):I.B<=w.heap.size:=by
 obtain⟨a,d,gv,e,b,f,c,fs,h⟩:=h;exact Vk I.hBC h.base
theorem Pf{D al:List UInt8}(n:Nat):∀{i:Nat} {l:List UInt8} {j:Nat},cD (bP D al) n i= Yn (l,j)->l.length=n:=by
 induction n with
 |zero=>intro i l j h;cases h;rfl
 |succ n ih=>
  grind[cD]
def pO{D:List UInt8}{most i:Nat}(h:gN D most i= Yn (l,j)):l.length<=most:=by
 unfold gN at h;split at h
 .cases h
 .rename_i n k a;have:=cz a;grind[Pf]
def rR(I:iO)(s:l7):Except (Int×Int) l7:=
 match bp I.D 17 s.i with
 | Ym e=> Ym e
 | Yn (n,j)=>match cD (nC I.D) n j with
  | Ym e=> Ym e
  | Yn (l,k)=> Yn {s with types:=s.types++l,i:=k}
theorem eG.ok{a:l7}{m:Except (Int×Int) l7}(e:m= Yn a)(h:jd I W a)(k:Kp (oX I) w W):eG I w W m (Yq (Yv H))/\Kp (oX I) w W:=by subst e;exact⟨⟨U,h⟩,k⟩
theorem eG.bad{w':Yw}{e:Int×Int}{m:Except (Int×Int) l7}{f:Yx}(h:m= Ym e)(hf:gJ W w' f e)(a:w.heap.size<=W.heap.size)(k:Kp (oX I) w w'):eG I w w' m (Yq f)/\Kp (oX I) w w':=by
 exact Aq
def zi(h:jd I w s)(ht:s.types.length<=100):Yy prog 76 #[aj I.kb] w λr a=>eG I w a (rR I s) r/\Kp (oX I) w a:=by
 have z:rR I s=rR I s:=rfl;conv at z=>rhs;unfold rR
 obtain⟨i0,h0,h1,h2,h3⟩:=info_parts G3;obtain⟨tv,gv,c,k7,k8,k9,-,-⟩:=h.kT;obtain⟨hc,hf⟩:=ae c;clear c;change Hid _ at z;replace h:=Z h;go_enter func76,ntmps76;go_wp2_with fail;refine(fM h.rd 17 Vb Vb).mono ?_;cases g:bp I.D 17 s.i with
 |error e=>
  rintro r w1⟨⟨y,j,rfl,⟨q,rfl,hF⟩,X⟩,K⟩;clear X;change Hid _ at hF;go_wp2;go_ret;exact eG.bad (z.trans (by rw[g])) ⟨q,U,hF⟩ cQ (h.iF K)
 |ok x=>
  obtain⟨n,j⟩:=x;rintro r w1⟨⟨v,rfl,rfl,X⟩,K⟩;have hn:=(cz g).1;replace z:=Z (z.trans (by rw[g]));have H1:=Z (h.read K X);have h4:=Z (h.iF K);clear X K hc hf g;go_wp2;go_loopw [20] (λa wr=> ∃(k jj:Nat) (l:List Ty),k<=n/\a= V O k/\l.length=k/\jd I wr {s with i:=jj,types:=s.types++l}/\Kp (oX I) w wr/\cD (nC I.D) n j=wM l (cD (nC I.D) (n-k) jj)) (λa _=>n - (intOf a).toNat);case atStart=>exact⟨0,j,[],Y,U,U,by rw[VF];exact H1,h4,by rw[tE];rfl⟩
  case round=>
   obtain⟨k,jj,l,hk,rfl,B,a,d,m⟩:=hrel;obtain⟨tv,xs,gv,c,⟨w0,w2,L⟩,h5,C,D⟩:=a.Sl;obtain⟨-,-,-,E,f,w4,-,-⟩:=a.kT;obtain⟨N,hN⟩:=bL ((s.types++l).length);have w5:N<=200:=by rw[hN];simp[B];omega
   simp only[<-hN]at L C D;clear hN;subst L;obtain⟨hc,hf⟩:=ae c;have P:=d.size;have w6:=a.base;have w7:=a.abm;change Hid _ at d B c C D;replace a:=Z a;by_cases w8:k<n
   .rw[show n-k=(n-k-1)+1 by omega,qG,nC]at m;change Hid _ at m;go_wp2_with fail;refine(oC a.rd a.Sg 8 Vb).mono ?_;simp only;cases g:gN I.D 8 jj with
    |error e=>
     rintro r w9⟨⟨y,rfl,q,rfl,hF⟩,A⟩;change Hid _ at hF;go_wp2;go_ret;exact eG.bad (z.trans (by simp only[m.out,g])) ⟨q,U,hF⟩ P (d.trans (a.iF A))
    |ok x=>
     obtain⟨p,j2⟩:=x;rintro r w9⟨⟨pv,rfl,o,t,R⟩,A⟩;obtain⟨h6,h7⟩:=ae (A.az c E);have h8:=A.size;obtain⟨h9,k0,rfl,-⟩:=o.CF;have k1:=Z (oC R (λb u=>cj (a.Sg b u)) 1 Vb);clear R hc hf;change Hid _ at t A;replace o:=Z o;go_wp2_with fail;refine k1.mono ?_;cases f:gN I.D 1 j2 with
     |error e=>
      rintro r w3⟨⟨y,rfl,q,rfl,hF⟩,F⟩;change Hid _ at hF;go_wp2;go_ret;exact eG.bad (z.trans (by simp only[m.out,g,f])) ⟨q,U,hF⟩ (Vk P h8) (d.trans (a.iF (A.trans F)))
     |ok x=>
      obtain⟨q,j3⟩:=x;have e0:=pO f;replace m:=Z (m.trans (by simp only[g,f];rfl));clear g f;rintro r w3⟨⟨rv,rfl,y,G,S⟩,F⟩;obtain⟨e1,e2⟩:=ae ((A.trans F).az c E);have e3:=F.size;obtain⟨k2,k3,rfl,-⟩:=y.CF;have J:=Z (A.trans F);have k4:=Z (o.kp F (λb u (e:b=I.rb)=>rq (t b u) a.acD));clear F h6 h7;change Hid _ at G S;replace y:=Z y;go_wp2_with(at_builtin;refine bj _ U _ _ 179 U I.B 138 i0 _ 2 48 underlying179 h0 h1 h2 h3 U Vb _ _ _ U ((C _ J).alloc _) _ 1 [Q h9 p.length k0,Q k2 q.length k3] U (aw.lq U _ _ 1 2 U) (by simp[Value.oneCell']) ?c3 ?c4 ?c5 ?_);case c3=>unfold maxLen;omega
      case c4=>omega
      case c5=>simp;omega
      intro v4 e4 e T k5;obtain⟨e5,e6,rfl⟩:=aA e;have W:=D w3 _ e4 j3 _ _ p q _ _ _ J S k4 y (λb u=>⟨(t b u).1,cj ((t b u).2)⟩) (λb u=>⟨cj ((G b u).1),(G b u).2⟩) ((Kp.refl no w3).alloc _) U U e T (by simpa using k5);have b:=(T.block I.kb Vd h5).trans ((((Kp.refl no w3).alloc _).trans (Kp.refl no _)).az (J.az c E) id);obtain⟨e7,e8⟩:=ae b;have u:=Z W.1;have k6:=Z (d.trans W.2);go_wp2;go_roundw;case rel=>exact⟨k+1,j3,l++[(p,q)],Y,by go_num,by simp[B.out],by rw[<-VD];exact u,k6,by rw[m.out,show n - (k+1)=n-k-1 by omega]⟩
      case measure=>simp[intOf];omega
   .obtain rfl :k=n:=Y
    rw[Wr,cD,wM,VF]at m;go_wp2;go_ret;exact eG.ok (z.trans (by simp only[m])) a d
end
def EK(D:List UInt8):List UInt8->Nat->Rd Unit
 |[],i=> Yn ((),i)
 |c::l,i=>match bP D [c] i with
  | Ym e=> Ym e
  | Yn (_,j)=>EK D l j
def uR(k:Nat):UInt8:=[83,84,75,1].getD k 0
def Lv(D:List UInt8)(k i:Nat)(a:k<4):EK D ([83,84,75,1].drop k) i=(match bP D [uR k] i with
  | Ym e=> Ym e
  | Yn (_,j)=>EK D ([83,84,75,1].drop (k+1)) j):=by
 rcases(by omega :k=0\/k=1\/k=2\/k=3)with rfl |rfl |rfl |rfl <;>rfl
section
variable{I:iO}{w:World}{s:l7}
def uS(I:iO)(s:l7):Except (Int×Int) l7:=
 match pB I.D s.i with
 | Ym e=> Ym e
 | Yn (_,j)=> Yn {s with i:=j}
def zk(h:jd I w s):Yy prog 75 #[aj I.kb] w λr a=>eG I w a (uS I s) r/\Kp (oX I) w a:=by
 have r:uS I s=(match EK I.D [83,84,75,1] s.i with
 | Ym e=> Ym e
 | Yn (_,j)=> Yn {s with i:=j}):=rfl
 generalize uS I s=R at *;go_enter func75,ntmps75;go_wp2;go_loopw [6] (λa wr=> ∃(k g:Nat),k<=4/\a= V O k/\jd I wr {s with i:=g}/\Kp (oX I) w wr/\EK I.D [83,84,75,1] s.i=EK I.D ([83,84,75,1].drop k) g) (λa _=>4 - (intOf a).toNat);case atStart=>exact⟨0,s.i,Y,U,h,(Kp.refl no w).any,U⟩
 case round=>
  obtain⟨k,g,G,rfl,b,d,a⟩:=hrel;obtain⟨J,gv,m,x,y,z,-,-⟩:=b.kT;obtain⟨K,L⟩:=ae m;have n:=d.size;have A:IntKind.i64.wrap 1=1:=Vb
  have B:IntKind.i64.wrap 2=2:=Vb
  have C:IntKind.i64.wrap 3=3:=Vb
  have D:IntKind.i64.wrap 4=4:=Vb
  by_cases o:k<4
  .have c:=λW (f:Kp no wr W)=>nA (b.quiet f).rd ⟨#[uR k]⟩ [uR k] U
   simp only at c;rw[Lv I.D k g o]at a;generalize bP I.D [uR k] g=E at *;match E,a,c with
   | Ym e,a,c=>
    rcases(by omega :k=0\/k=1\/k=2\/k=3)with rfl |rfl |rfl |rfl
    all_goals
     go_wp2_with fail;go_region_law (first |((refine sc (c _ (by repeat' first |exact Kp.refl _ _|apply Kp.drew|apply Kp.drewN|apply Kp.alloc)) ?_;rintro e F⟨⟨q,j,rfl,⟨t,rfl,f,p⟩,u⟩,l⟩;refine⟨_,U,?_⟩)));all_goals
      have q:=Vk n f;have f:=d.trans (b.iF (Kp.trans ((Kp.refl (one I.rb) wr).drew) l));go_wp2;go_ret;rw[r];show eG _ _ _ (match EK I.D [83,84,75,1] s.i with | Ym e=> Ym e| Yn (_,j)=> Yn {s with i:=j}) _/\_
      rw[a];exact⟨⟨aj t,U,t,U,q,p⟩,f⟩
   | Yn (t,p),a,c=>
    rcases(by omega :k=0\/k=1\/k=2\/k=3)with rfl |rfl |rfl |rfl
    all_goals
     go_wp2_with fail;go_region_law (first |((refine sc (c _ (by repeat' first |exact Kp.refl _ _|apply Kp.drew|apply Kp.drewN|apply Kp.alloc)) ?_;rintro e F⟨⟨v,rfl,rfl,u⟩,l⟩;refine⟨_,U,?_⟩)));all_goals
      have q:=b.read (Kp.trans ((Kp.refl (one I.rb) wr).drew) l) u;have f:=Z (d.trans (b.iF (Kp.trans ((Kp.refl (one I.rb) wr).drew) l)));go_wp2;go_roundw;case rel=>exact⟨_,p,Y,by go_num,q,f,a⟩
      case measure=>simp[intOf]
  .obtain rfl :k=4:=Y
   go_wp2;go_ret;rw[r];show eG _ _ _ (match EK I.D [83,84,75,1] s.i with | Ym e=> Ym e| Yn (_,j)=> Yn {s with i:=j}) _/\_
   rw[a];exact⟨⟨U,b⟩,d⟩
end
def EL:(Tryz.prog.info? 256).map (λi=>(i.zero,i.size,i.bytes))=M (M (.agg #[V Ys 0,Yt Yj]),2,2):=Vf
def G4:(Tryz.prog.info? 140).map (λi=>(i.zero,i.size,i.bytes))=M (M (.agg #[Q H 0 0,Q H 0 0,V O 0,V O 0]),4,64):=Vf
def Pg:(Tryz.prog.info? 38).map (λi=>(i.zero,i.size,i.bytes))=M (M (V Yr 0),1,8):=Vf
section
variable{I:iO}{w:World}{s:l7}
def EM{i:Nat->Nat}{gv jB cv:Yx}{g:List Pc}{l:List Pd}(h:cy I w s i v gv u jB cv g l){w5:Yw}(m:Kp no w W)(x:UInt8×Bool)
  {v1:Yx}(y:a=s.gl.length+1)(n:F=s.gl.flatMap j8++j8 x)
  (o:w5.ownsRow I.B 256 2 v1 a F)(j:W.grownBy w5 gv.ownBlock)(p:v1.ownBlock=gv.ownBlock\/v1.ownBlock=M W.heap.size):
  jd I (w5.setCell ⟨I.kb,2,H⟩ v1) {s with gl:=s.gl++[x]}/\Kp (oX I) w (w5.setCell ⟨I.kb,2,H⟩ v1):=by
 subst y n;obtain⟨f,z⟩:=bL (λk=>if k<w.heap.size then i k else 5:Nat->Nat);have A:cy I w s f v gv u jB cv g l:=h.mM (λk b=>Ve);have c:=A.quiet m;have B:=m.size;have k:∀b,v1.ownBlock=M b->f b=5:=by
  intro b q;rcases p with e|e
  .grind[cy.r5]
  grind
 have C:Kp (λb=>(λr=>r=3\/r=5) (f b)) W w5:=(Kp.refl _ W).bS j (λb q=> Yo (Yp (c.r5 b q)));have d:Kp (λb=>(λr=>r=3\/r=5) (f b)) W (w5.setCell ⟨I.kb,2,H⟩ v1):=C.bE (Yo c.r3) _ _;have t:w5.heap[I.kb]?=M (Yl #[aj I.rb,v,gv,aj I.mb] 182):=(j.block I.kb (au c.look) (λe=>by grind[cy.r5,cy.r3])).trans c.look;have D:(w5.setCell ⟨I.kb,2,H⟩ v1).ownsRow I.B 256 2 v1 (s.gl.length+1) (s.gl.flatMap j8++j8 x):=
  ((Kp.refl (one I.kb) w5).bK _ _).own o (λb q (e:b=I.kb)=>by grind[cy.r3])
 have b:=m.any.trans (c.Lu (X:=λr=>r=3\/r=5) d Vb);refine⟨⟨f,v,v1,u,jB,cv,g,l,?_⟩,b⟩;refine⟨Vk c.base d.size,(c.DV (X:=λr=>r=3\/r=5) d Vb Vb:),heap_setCell t _,(c.nV (X:=λr=>r=3\/r=5) d Vb:),(c.pM (X:=λr=>r=3\/r=5) d Vb:),?_,(c.rQ (X:=λr=>r=3\/r=5) d Vb:),(c.vT (X:=λr=>r=3\/r=5) d Vb:),(c.jD (X:=λr=>r=3\/r=5) d Vb:),c.Lr,c.Lt,c.CL (X:=λr=>r=3\/r=5) d Vb,c.zf (X:=λr=>r=3\/r=5) d Vb,c.r1,c.r2,c.r3,c.r4,k,c.r6,c.r7,c.r8,c.CM (X:=λr=>r=3\/r=5) d,c.zg (X:=λr=>r=3\/r=5) d,c.low,c.CK,c.M0,c.Jn⟩;grind
def G5{i:Nat->Nat}{gv jB cv:Yx}{g:List Pc}{l:List Pd}(h:cy I w s i v gv u jB cv g l){w5:Yw}(m:Kp no w W)(x:Nat)
  {v1:Yx}(y:a=s.dW.length+1)(n:F=(s.dW.map λa=>Value.int Yr (a:Nat))++[V Yr (x:Nat)])
  (o:w5.ownsRow I.B 38 1 v1 a F)(j:W.grownBy w5 jB.ownBlock)(p:v1.ownBlock=jB.ownBlock\/v1.ownBlock=M W.heap.size):
  jd I (w5.setCell ⟨I.mb,1,H⟩ v1) {s with dW:=s.dW++[x]}/\Kp (oX I) w (w5.setCell ⟨I.mb,1,H⟩ v1):=by
 subst y n;obtain⟨f,z⟩:=bL (λk=>if k<w.heap.size then i k else 7:Nat->Nat);have A:cy I w s f v gv u jB cv g l:=h.mM (λk b=>Ve);have c:=A.quiet m;have B:=m.size;have k:∀b,v1.ownBlock=M b->f b=7:=by
  intro b q;rcases p with e|e
  .grind[cy.r7]
  grind
 have C:Kp (λb=>(λr=>r=2\/r=7) (f b)) W w5:=(Kp.refl _ W).bS j (λb q=> Yo (Yp (c.r7 b q)));have d:Kp (λb=>(λr=>r=2\/r=7) (f b)) W (w5.setCell ⟨I.mb,1,H⟩ v1):=C.bE (Yo c.r2) _ _;have t:w5.heap[I.mb]?=M (Yl #[u,jB,V O s.bI,cv] 121):=(j.block I.mb (au c.mod) (λe=>by grind[cy.r7,cy.r2])).trans c.mod;have D:(w5.setCell ⟨I.mb,1,H⟩ v1).ownsRow I.B 38 1 v1 (s.dW.length+1) ((s.dW.map λa=>Value.int Yr (a:Nat))++[V Yr (x:Nat)]):=
  ((Kp.refl (one I.mb) w5).bK _ _).own o (λb q (e:b=I.mb)=>by grind[cy.r2])
 have b:=m.any.trans (c.Lu (X:=λr=>r=2\/r=7) d Vb);refine⟨⟨f,v,gv,u,v1,cv,g,l,?_⟩,b⟩;refine⟨Vk c.base d.size,(c.DV (X:=λr=>r=2\/r=7) d Vb Vb:),(c.ye (X:=λr=>r=2\/r=7) d Vb:),heap_setCell t _,(c.pM (X:=λr=>r=2\/r=7) d Vb:),(c.pN (X:=λr=>r=2\/r=7) d Vb:),(c.rQ (X:=λr=>r=2\/r=7) d Vb:),?_,(c.jD (X:=λr=>r=2\/r=7) d Vb:),c.Lr,c.Lt,c.CL (X:=λr=>r=2\/r=7) d Vb,c.zf (X:=λr=>r=2\/r=7) d Vb,c.r1,c.r2,c.r3,c.r4,c.r5,c.r6,k,c.r8,c.CM (X:=λr=>r=2\/r=7) d,c.zg (X:=λr=>r=2\/r=7) d,c.low,c.CK,c.M0,c.Jn⟩;grind
theorem EN{i:Nat->Nat}{gv jB cv:Yx}{g:List Pc}{j:List Pd}(h:cy I w s i v gv u jB cv g j){w5:Yw}(m:Kp no w W){x:Pc}(J:x∈g)
  {v1:Yx}(A:a=s.eb.length+1)(n:F=j.flatMap j9++[x.2.1,x.2.2,V O 0,V O 0])
  (o:w5.ownsRow I.B 140 4 v1 a F)(l:W.grownBy w5 u.ownBlock)(p:v1.ownBlock=u.ownBlock\/v1.ownBlock=M W.heap.size):
  jd I (w5.setCell ⟨I.mb,0,H⟩ v1) {s with eb:=s.eb++[⟨x.1,0,0⟩]}/\Kp (oX I) w (w5.setCell ⟨I.mb,0,H⟩ v1):=by
 subst A n;obtain⟨f,B⟩:=bL (λk=>if k<w.heap.size then i k else 6:Nat->Nat);have C:cy I w s f v gv u jB cv g j:=h.mM (λk b=>Ve);have c:=C.quiet m;have D:=m.size;have k:∀b,v1.ownBlock=M b->f b=6:=by
  intro b q;rcases p with e|e
  .grind[cy.r6]
  grind
 have E:Kp (λb=>(λr=>r=2\/r=6) (f b)) W w5:=(Kp.refl _ W).bS l (λb q=> Yo (Yp (c.r6 b q)));have d:Kp (λb=>(λr=>r=2\/r=6) (f b)) W (w5.setCell ⟨I.mb,0,H⟩ v1):=E.bE (Yo c.r2) _ _;have t:w5.heap[I.mb]?=M (Yl #[u,jB,V O s.bI,cv] 121):=(l.block I.mb (au c.mod) (λe=>by grind[cy.r6,cy.r2])).trans c.mod;have K:(w5.setCell ⟨I.mb,0,H⟩ v1).ownsRow I.B 140 4 v1 (s.eb.length+1) (j.flatMap j9++[x.2.1,x.2.2,V O 0,V O 0]):=
  ((Kp.refl (one I.mb) w5).bK _ _).own o (λb q (e:b=I.mb)=>by grind[cy.r2])
 have G:=m.any.trans (c.Lu (X:=λr=>r=2\/r=6) d Vb);have b:=c.CL (X:=λr=>r=2\/r=6) d Vb;have q:=c.CM (X:=λr=>r=2\/r=6) d;refine⟨⟨f,v,gv,v1,jB,cv,g,j++[(⟨x.1,0,0⟩,x.2.1,x.2.2)],?_⟩,G⟩;refine⟨Vk c.base d.size,(c.DV (X:=λr=>r=2\/r=6) d Vb Vb:),(c.ye (X:=λr=>r=2\/r=6) d Vb:),heap_setCell t _,(c.pM (X:=λr=>r=2\/r=6) d Vb:),(c.pN (X:=λr=>r=2\/r=6) d Vb:),?_,(c.vT (X:=λr=>r=2\/r=6) d Vb:),(c.jD (X:=λr=>r=2\/r=6) d Vb:),c.Lr,?_,b,?_,c.r1,c.r2,c.r3,c.r4,c.r5,k,c.r7,c.r8,q,?_,c.low,c.CK,c.M0,?_⟩
 .grind[j9]
 .simp[h.Lt]
 .intro y z;rcases VS.1 z with e|e
  .exact c.zf (X:=λr=>r=2\/r=6) d Vb y e
  grind
 .intro y z;rcases VS.1 z with e|e
  .exact c.zg (X:=λr=>r=2\/r=6) d y e
  grind
 grind[cy.Jn,cy.M0]
end
section
variable{I:iO}{w:World}{s:l7}
def jd.Sn(h:jd I w s):∃j gv f g u b,w.heap[I.kb]?=M (Yl #[aj I.rb,j,gv,aj I.mb] 182)/\w.heap[I.mb]?=M (Yl #[f,g,V O s.bI,u] 121)/\
  (∃a d,f= Q a s.eb.length d)/\M I.mb≠f.ownBlock/\M I.kb≠f.ownBlock/\(∀W,Kp no w W->W.ownsRow I.B 140 4 f s.eb.length b)/\
  ∀n,n<s.types.length-> ∃a o d p c q r e t,j= Q (M ⟨a,o,H⟩) s.types.length d/\a≠I.mb/\M a≠f.ownBlock/\a<w.heap.size/\
   (∀W,Kp no w W->W.cell? ⟨a,o+n*2,H⟩=M (Q p c q)/\W.cell? ⟨a,o+n*2+1,H⟩=M (Q r e t))/\
   ∀W l i m v,Kp no w W->m=s.eb.length+1->v=b++[Q p c q,Q r e t,V O 0,V O 0]->l.ownsRow I.B 140 4 i m v->W.grownBy l f.ownBlock->(i.ownBlock=f.ownBlock\/i.ownBlock=M W.heap.size)->
    jd I (l.setCell ⟨I.mb,0,H⟩ i) {s with eb:=s.eb++[⟨s.types.getD n ([],[]),0,0⟩]}/\Kp (oX I) w (l.setCell ⟨I.mb,0,H⟩ i):=by
 obtain⟨C,j,gv,f,g,u,c,D,h⟩:=h;refine⟨j,gv,f,g,u,D.flatMap j9,h.look,h.mod,aA h.funcs,λe=>?_,λe=>?_,λW k=>k.own h.funcs bW,λn b=>?_⟩
 .grind[cy.r6,cy.r2]
 .grind[cy.r6,cy.r3]
 have L:s.types.length=c.length:=by rw[h.Lr,VH]
 obtain⟨x,y⟩:∃x,c[n]?=M x:=⟨c[n]'Y,Vc⟩;have B:=Vw y;have E:s.types.getD n ([],[])=x.1:=by rw[h.Lr];grind
 have F:(c.flatMap lz)[n*2]?=M x.2.1:=by
  have:=kI Ud c n 0 Y;rw[VU]at this;rw[this,y];rfl
 have G:(c.flatMap lz)[n*2+1]?=M x.2.2:=by
  rw[kI Ud c n 1 Y,y];rfl
 have z:=aw.own h.types;have A:∀b,j.ownBlock=M b->b<w.heap.size:=λb J=>bR h.types J
 obtain⟨K,⟨rfl,N⟩|⟨a,o,d,rfl,P,n⟩⟩:=z
 .omega
 obtain⟨p,q,e1,-⟩:=(h.Ue x B).1.aJ;obtain⟨r,t,e2,-⟩:=(h.Ue x B).2.aJ;refine⟨a,o,d,p,x.1.1.length,q,r,x.1.2.length,t,U,λe=>?_,λe=>?_,A a U,λW k=>?_,λW l i m v b J R b3 b4 i=>?_⟩
 .have :=h.r4 a U;grind[cy.r2]
 .have :=h.r6 a e.symm;rw[h.r4 a U]at this;cases this
 .rw[<-e1,<-e2];exact⟨k.cell (n _ _ F) id,by rw[VR];exact k.cell (n _ _ G) id⟩
 grind[EN]
def yf(D:List UInt8)(ts:List Ty)(i:Nat):Rd Ty:=match bp D ts.length i with
 | Ym e=> Ym e
 | Yn (k,j)=> Yn (ts.getD k ([],[]),j)
def rS(I:iO)(s:l7):Except (Int×Int) l7:=
 match bp I.D 17 s.i with
 | Ym e=> Ym e
 | Yn (n,j)=>match cD (yf I.D s.types) n j with
  | Ym e=> Ym e
  | Yn (l,k)=> Yn {s with eb:=s.eb++l.map (λt=>⟨t,0,0⟩),i:=k}
def zl(h:jd I w s)(ht:s.types.length<=200)(w7:s.eb.length<=100):Yy prog 77 #[aj I.kb] w λr b=>eG I w b (rS I s) r/\Kp (oX I) w b:=by
 have A:rS I s=rS I s:=rfl;conv at A=>rhs;unfold rS
 obtain⟨i0,h9,k0,k1,k2⟩:=info_parts G4;obtain⟨tv,gv,d,w8,w9,e0,-,-⟩:=h.kT;obtain⟨hc,hf⟩:=ae d;clear d;change Hid _ at A;replace h:=Z h;go_enter func77,ntmps77;go_wp2_with fail;refine(fM h.rd 17 Vb Vb).mono ?_;cases m:bp I.D 17 s.i with
 |error e=>
  rintro r e1⟨⟨c,j,rfl,⟨p,rfl,hF⟩,B⟩,L⟩;clear B;change Hid _ at hF;go_wp2;go_ret;exact eG.bad (A.trans (by rw[m])) ⟨p,U,hF⟩ cQ (h.iF L)
 |ok x=>
  obtain⟨n,j⟩:=x;rintro r e1⟨⟨v,rfl,rfl,B⟩,L⟩;have hn:=(cz m).1;replace A:=Z (A.trans (by rw[m]));have H1:=Z (h.read L B);have k3:=Z (h.iF L);clear B L hc hf m;go_wp2;go_loopw [19] (λc wr=> ∃(k jj:Nat) (l:List Ty),k<=n/\c= V O k/\l.length=k/\jd I wr {s with i:=jj,eb:=s.eb++l.map (λt=>⟨t,0,0⟩)}/\Kp (oX I) w wr/\cD (yf I.D s.types) n j=wM l (cD (yf I.D s.types) (n-k) jj)) (λc _=>n - (intOf c).toNat);case atStart=>exact⟨0,j,[],Y,U,U,by simpa using H1.out,k3,by rw[tE];rfl⟩
  case round=>
   obtain⟨k,jj,l,hk,rfl,C,c,u,z⟩:=hrel;obtain⟨tv,gv,d,k4,e2,e3,⟨k5,k6,rfl⟩,-⟩:=c.kT;obtain⟨hc,hf⟩:=ae d;have k7:=u.size;change Hid _ at u C d;replace c:=Z c;by_cases e4:k<n
   .rw[show n-k=(n-k-1)+1 by omega,qG,yf]at z;change Hid _ at z;go_wp2_with fail;refine rj 15 15 (λb=> ∀o,b.cell? ⟨I.kb,o,H⟩=#[aj I.rb,Q k5 s.types.length k6,gv,aj I.mb][o]?) ?hS λhS=>?_
    case hS=>exact λo=>hc o
    refine tj 0 ?_;iterate 8 refine tn ?_
    refine oj 9 λK y=>?_
    refine sc (fM (c.quiet fL).rd s.types.length Y Y) ?_;rintro r P⟨hg,D⟩;obtain⟨v,f,rfl,R⟩:=hg.hO;refine⟨_,U,y _ _ (λo=>?_) (λhS=>?_)⟩
    .exact(ae (D.az (a:=wr.drew) d k4)).1 o
    clear y K;simp only[pS];refine tj 10 ?_;iterate 4 refine tn ?_
    refine dj ?_;have K3:=Z (Kp.trans ((Kp.refl (one I.rb) wr).drew) D);clear hg D;simp only at R;cases m:bp I.D s.types.length jj with
    |error e=>
     rw[m]at R;obtain⟨rfl,p,rfl,g⟩:=R;change Hid _ at g;go_wp2;go_ret;exact eG.bad (W:=wr) (A.trans (by simp only[z.out,m])) ⟨p,U,g⟩ k7 (u.trans (c.iF K3))
    |ok x=>
     obtain⟨p,j2⟩:=x;rw[m]at R;obtain⟨rfl,rfl,B⟩:=R;have hp:=(cz m).1;replace z:=Z (z.trans (by rw[m]));have D:=K3.out;clear m;have T:=c.read D B;have k8:=Z (u.trans (c.iF D));have e5:=T.base;have e6:=T.abm;obtain⟨e7,k9,e8,e9,s0,s1,E,g,⟨X,h0,h1⟩,h2,w0,F,G⟩:=T.Sn;obtain⟨N,hN⟩:=bL ((s.eb++l.map (λt=>(⟨t,0,0⟩:vM))).length);have s2:N<=200:=by rw[hN];simp[C.out];omega
     simp only[<-hN]at h1 F G;clear hN;subst h1;obtain⟨a,o,w1,ap,lp,cp,ar,lr,cr,rfl,s3,h3,s4,h4,h5⟩:=G p (by simpa using hp);have s5:p<s.types.length:=by simpa using hp
     obtain⟨h6,h7⟩:=h4 P (Kp.refl no P);have w2:=(ae E).1;have w3:=(ae g).1 0;have w4:=(ae g).2 0;have s6:=au g;obtain⟨S,t⟩:=bL (λb=>(∀q,b.cell? ⟨I.kb,q,H⟩=#[aj I.rb,Q (M ⟨a,o,H⟩) s.types.length w1,k9,aj I.mb][q]?)/\b.cell? ⟨I.mb,0,H⟩=M (Q X N h0)/\b.frozen? ⟨I.mb,0,H⟩=Yj/\b.cell? ⟨a,o+p*2,H⟩=M (Q ap lp cp)/\b.cell? ⟨a,o+p*2+1,H⟩=M (Q ar lr cr):Yw->Prop);have q:∀W,Kp (λb=>M b=(Value.slice X N h0).ownBlock) P W->S W:=λW k=>by
      rw[t];exact⟨(ae (k.az E w0)).1,(ae (k.az g h2)).1 0,(ae (k.az g h2)).2 0,k.cell h6 h3,k.cell h7 h3⟩
     have w5:=Z t;clear B D hc hf G hS t w2 w3 w4 h6 h7;change Hid _ at F h5 E g h4 q;replace T:=Z T;go_wp2_with fail;refine rj 23 24 (S) ?hS λhS=>?_
     case hS=>exact q _ fL
     have t:=w5.out;subst t;refine tj 0 ?_;iterate 18 refine tn ?_
     refine oj 19 λK y=>?_
     go_simp;refine y _ _ (q _ (((Kp.refl _ _).drew).alloc _)) (λhS=>?_);clear y K;refine oj 20 λK y=>?_
     refine bJ _ Vg _ _ _ Vg I.B 140 i0 _ 4 64 underlying118 h9 k0 k1 k2 U Y _ N _ Vg (F _ (((Kp.refl _ _).drew).alloc _)) (Q (M ⟨P.heap.size,0,H⟩) 1 1) 1 [Q ap lp cp,Q ar lr cr,V O 0,V O 0] Vg (aw.lq U #[Q ap lp cp,Q ar lr cr,V O 0,V O 0] _ 1 4 U) (by simp[Value.oneCell']) (by simp only[maxLen];omega) Y Vd ?_;intro v1 s9 b J h8;refine y _ _ (q _ ((((Kp.refl _ _).drew).alloc _).bS J (λk e=> Yo e.symm))) (λhS=>?_);clear y K;obtain⟨s7,s8,rfl⟩:=aA b;refine tj 21 ?_;refine tj 22 ?_;refine ej 23 λK y=>?_
     go_simp;refine y _ _ ?_;clear y K;refine dj ?_;obtain⟨e,w6⟩:=h5 _ _ _ _ _ (((Kp.refl no P).drew).alloc _) U U b J h8;have y:=Z (k8.trans w6);clear w6 b J h8 hS q;replace e:=Z e;go_wp2;go_roundw;case rel=>exact⟨k+1,j2,l++[s.types.getD p ([],[])],Y,by go_num,by simp[C.out],by simpa using e.out,y,by rw[z.out,show n - (k+1)=n-k-1 by omega]⟩
     case measure=>simp[intOf];omega
   .obtain rfl :k=n:=Y
    rw[Wr,cD,wM,VF]at z;change Hid _ at z;go_wp2;go_ret;exact eG.ok (A.trans (by simp only[z.out])) c u
end
section
variable{I:iO}{w:World}{s:l7}
def jd.Sp(h:jd I w s):∃c gv e,w.heap[I.kb]?=M (Yl #[aj I.rb,c,gv,aj I.mb] 182)/\(∃b a,gv= Q b s.gl.length a)/\M I.kb≠gv.ownBlock/\(∀W,Kp no w W->W.ownsRow I.B 256 2 gv s.gl.length e)/\
  ∀W b a m d x,Kp no w W->m=s.gl.length+1->d=e++j8 x->b.ownsRow I.B 256 2 a m d->W.grownBy b gv.ownBlock->(a.ownBlock=gv.ownBlock\/a.ownBlock=M W.heap.size)->
   jd I (b.setCell ⟨I.kb,2,H⟩ a) {s with gl:=s.gl++[x]}/\Kp (oX I) w (b.setCell ⟨I.kb,2,H⟩ a):=by
 obtain⟨f,c,gv,l,g,n,i,o,h⟩:=h;refine⟨c,gv,s.gl.flatMap j8,h.look,aA h.bO,λe=>?_,λW k=>k.own h.bO bW,λW b a m d x j k b b3 b4 a=>EM h j x k b b3 b4 a⟩;have:=h.r5 _ e.symm;rw[h.r3]at this;cases this
def jd.UY(h:jd I w s):∃d gv f a g e,w.heap[I.kb]?=M (Yl #[aj I.rb,d,gv,aj I.mb] 182)/\w.heap[I.mb]?=M (Yl #[f,a,V O s.bI,g] 121)/\(∃c b,a= Q c s.dW.length b)/\M I.mb≠a.ownBlock/\M I.kb≠a.ownBlock/\(∀W,Kp no w W->W.ownsRow I.B 38 1 a s.dW.length e)/\
  ∀W c b m i (x:Nat),Kp no w W->m=s.dW.length+1->i=e++[V Yr (x:Nat)]->c.ownsRow I.B 38 1 b m i->W.grownBy c a.ownBlock->(b.ownBlock=a.ownBlock\/b.ownBlock=M W.heap.size)->
   jd I (c.setCell ⟨I.mb,1,H⟩ b) {s with dW:=s.dW++[x]}/\Kp (oX I) w (c.setCell ⟨I.mb,1,H⟩ b):=by
 obtain⟨j,d,gv,f,a,g,l,o,h⟩:=h;refine⟨d,gv,f,a,g,_,h.look,h.mod,aA h.dW,λe=>?_,λe=>?_,λW k=>k.own h.dW bW,λW c b m i x k n c b3 b4 b=>G5 h k x n c b3 b4 b⟩
 .have :=h.r7 _ e.symm;rw[h.r2]at this;cases this
 .have :=h.r7 _ e.symm;rw[h.r3]at this;cases this
def Lx{al:List UInt8}(h:bP l al k= Yn (g,j)):g∈al:=by
 grind[bP]
def EO(h:kC w k u l a)(b:g∈[127,126]):
  Yy prog 140 #[aj k,V Ys g.toNat] w λr c=>oP w c k u l (λ(n:Nat) v=>v= V Yr n) (V Yr 0) (kK l g a) r/\Kp (one k) w c:=by
 simp only[Wg,WK,XW]at b;rcases b with rfl |rfl
 .exact vN h
 .exact vO h
def EP(I:iO)(s:l7):Except (Int×Int) l7:=
 match jE I.D s.i with
 | Ym e=> Ym e
 | Yn ((x,v),m)=> Yn {s with gl:=s.gl++[x],dW:=s.dW++[v],i:=m}
def Sq(f:UInt8):((f.toNat:Int)==1)=(f==1):=by
 rw[V4];simp only[WI];constructor
 .intro h;exact Vp.1 Ve
 simp_all
def yg(h:jd I w s)(e1:s.gl.length<=100)(e2:s.dW.length<=100):Yy prog 107 #[aj I.kb] w λr y=>eG I w y (EP I s) r/\Kp (oX I) w y:=by
 have T:EP I s=EP I s:=rfl;conv at T=>rhs;unfold EP jE
 obtain⟨i0,h8,h9,k0,k1⟩:=info_parts EL;obtain⟨i1,k2,k3,k4,k5⟩:=info_parts Pg;obtain⟨tv,gv,X,e3,e4,e5,-,-⟩:=h.kT;obtain⟨hc,hf⟩:=ae X;clear X;change Hid _ at T;replace h:=Z h;go_enter func107,ntmps107;go_wp2_with fail;refine(nA h.rd ⟨#[127,126]⟩ [127,126] U).mono ?_;cases k6:bP I.D [127,126] s.i with
 |error e=>
  rintro r b⟨⟨d,j,rfl,⟨a,rfl,hF⟩,m⟩,c⟩;clear m;change Hid _ at hF;go_wp2;go_ret;exact eG.bad (T.trans Ve) ⟨a,U,hF⟩ cQ (h.iF c)
 |ok x=>
  obtain⟨t,j1⟩:=x;have ht:=Z (Lx k6);rintro r x0⟨⟨v,rfl,rfl,m⟩,c⟩;have z:=h.read c m;have h0:=Z (h.iF c);have h1:=c.size;clear m c hc hf;obtain⟨e6,e7,h2,-,-,-,-,-⟩:=z.kT;obtain⟨hc,hf⟩:=ae h2;clear h2;replace z:=Z z;go_wp2_with fail;refine(nA z.rd ⟨#[0,1]⟩ [0,1] U).mono ?_;cases e8:bP I.D [0,1] j1 with
  |error e=>
   rintro r b⟨⟨d,j,rfl,⟨a,rfl,hF⟩,m⟩,c⟩;clear m;change Hid _ at hF;go_wp2;go_ret;exact eG.bad (T.trans Ve) ⟨a,U,hF⟩ h1 (h0.trans (z.iF c))
  |ok x=>
   obtain⟨f,j2⟩:=x;rintro r x1⟨⟨v,rfl,rfl,m⟩,c⟩;have A:=z.read c m;have h3:=Z (h0.trans (z.iF c));have k7:=Vk h1 c.size;clear m c hc hf;obtain⟨e9,s0,h4,-,-,-,-,-⟩:=A.kT;obtain⟨hc,hf⟩:=ae h4;clear h4;replace A:=Z A;go_wp2_with fail;refine(EO A.rd ht).mono ?_;cases s1:kK I.D t j2 with
   |error e=>
    rintro r b⟨⟨d,j,rfl,⟨a,rfl,hF⟩,m⟩,c⟩;clear m;change Hid _ at hF;go_wp2;go_ret;exact eG.bad (T.trans Ve) ⟨a,U,hF⟩ k7 (h3.trans (A.iF c))
   |ok x=>
    obtain⟨x,j3⟩:=x;rintro r w3⟨⟨v,rfl,rfl,m⟩,c⟩;have k8:=A.read c m;have k9:=Z (h3.trans (A.iF c));clear m c hc hf;obtain⟨w0,s2,s3,B,⟨C,D,rfl⟩,h5,E,F⟩:=k8.Sp;obtain⟨S,a⟩:=bL (λy=> ∀q,y.cell? ⟨I.kb,q,H⟩=#[aj I.rb,w0,Q C s.gl.length D,aj I.mb][q]?:Yw->Prop);have g:∀W,Kp (λb=>M b=(Value.slice C s.gl.length D).ownBlock) w3 W->S W:=λW k=>by
     rw[a];exact(ae (k.az B h5)).1
    have d:∀W,Kp (λb=>M b=(Value.slice C s.gl.length D).ownBlock) w3 W->W.frozen? ⟨I.kb,2,H⟩=false:=λW k=>(ae (k.az B h5)).2 2
    have s4:=k8.base;have u:=Z g;have n:=Z a;have o:=Z d;clear k8 B g a d;change Hid _ at E F;go_wp2_with fail;refine rj 14 15 (S) ?hS λhS=>?_
    case hS=>exact u _ fL
    have a:=n.out;subst a;refine tj 0 ?_;iterate 9 refine tn ?_
    refine oj 10 λK i=>?_
    go_simp;refine i _ _ (u _ (((Kp.refl _ _).drew).alloc _)) (λhS=>?_);clear i K;refine oj 11 λK i=>?_
    refine bJ _ Vg _ _ _ Vg I.B 256 i0 _ 2 2 underlying180 h8 h9 k0 k1 U Y _ s.gl.length _ Vg (E _ (((Kp.refl _ _).drew).alloc _)) (Q (M ⟨w3.heap.size,0,H⟩) 1 1) 1 [V Ys t.toNat,Yt ((f.toNat:Int)==1)] Vg (aw.lq U #[V Ys t.toNat,Yt ((f.toNat:Int)==1)] _ 1 2 U) (by simp[Value.oneCell']) (by grind[maxLen]) Y Vd ?_;intro v1 s5 j l p;have G:=(((Kp.refl _ _).drew).alloc _).bS l (λk e=> Yo e.symm);have d:=o _ G;refine i _ _ (u _ G) (λhS=>?_);clear i K G;obtain⟨w1,w2,rfl⟩:=aA j;refine tj 12 ?_;refine tj 13 ?_;refine ej 14 λK i=>?_
    go_simp;refine i _ _ ?_;clear i K;refine dj ?_;obtain⟨w4,e0⟩:=F _ _ _ _ _ (t,f==1) (((Kp.refl no w3).drew).alloc _) U (by rw[Sq];rfl) j l p;generalize World.setCell s5 ⟨I.kb,2,H⟩ (Q w1 (s.gl.length+1) w2)=w6 at *;have w5:=Z (k9.trans e0);clear e0 j l p hS u F n o E d;obtain⟨w7,w8,s6,s7,s8,s9,h6,J,⟨L,N,rfl⟩,h7,w9,P,R⟩:=w4.UY;obtain⟨S,a⟩:=bL (λy=>(∀q,y.cell? ⟨I.kb,q,H⟩=#[aj I.rb,w7,w8,aj I.mb][q]?)/\y.cell? ⟨I.mb,1,H⟩=M (Q L s.dW.length N):Yw->Prop);have g:∀W,Kp (λb=>M b=(Value.slice L s.dW.length N).ownBlock) w6 W->S W:=λW k=>by
     rw[a];exact⟨(ae (k.az h6 w9)).1,(ae (k.az J h7)).1 1⟩
    have d:∀W,Kp (λb=>M b=(Value.slice L s.dW.length N).ownBlock) w6 W->W.frozen? ⟨I.mb,1,H⟩=false:=λW k=>(ae (k.az J h7)).2 1
    have q:=w4.base;have n:=Z a;have o:=Z d;clear w4 h6 J a d;change Hid _ at g P R;go_wp2_with fail;refine rj 16 17 (S) ?hS λhS=>?_
    case hS=>exact g _ fL
    have a:=n.out;subst a;refine tj 0 ?_;iterate 11 refine tn ?_
    refine oj 12 λK i=>?_
    go_simp;refine i _ _ (g _ (((Kp.refl _ _).drew).alloc _)) (λhS=>?_);clear i K;refine oj 13 λK i=>?_
    refine bJ _ Vg _ _ _ Vg I.B 38 i1 _ 1 8 underlying53 k2 k3 k4 k5 U Y _ s.dW.length _ Vg (P _ (((Kp.refl _ _).drew).alloc _)) (Q (M ⟨w6.heap.size,0,H⟩) 1 1) 1 [V Yr x] Vg (aw.lq U #[V Yr x] _ 1 1 U) (by simp[Value.oneCell']) (by grind[maxLen]) Y Vd ?_;intro W x2 j l p;have G:=(((Kp.refl _ _).drew).alloc _).bS l (λk e=> Yo e.symm);have d:=o _ G;refine i _ _ (g _ G) (λhS=>?_);clear i K G;obtain⟨k,y,rfl⟩:=aA j;refine tj 14 ?_;refine tj 15 ?_;refine ej 16 λK i=>?_
    go_simp;refine i _ _ ?_;clear i K;refine dj ?_;obtain⟨b,i⟩:=R _ _ _ _ _ x (((Kp.refl no w6).drew).alloc _) U U j l p;have e:=Z (w5.trans i);clear i j l p hS g R n o P d;replace b:=Z b;go_wp2;go_ret;exact eG.ok (T.trans Ve) b e
end
section
variable{I:iO}{w:World}{s:l7}
def uT(I:iO)(s:l7):Except (Int×Int) l7:=
 match bp I.D 9 s.i with
 | Ym e=> Ym e
 | Yn (n,j)=>match cD (jE I.D) n j with
  | Ym e=> Ym e
  | Yn (l,k)=> Yn {s with gl:=s.gl++l.map (·.1),dW:=s.dW++l.map (·.2),i:=k}
def wO(h:jd I w s)(J:s.gl.length<=50)(K:s.dW.length<=50):Yy prog 78 #[aj I.kb] w λr a=>eG I w a (uT I s) r/\Kp (oX I) w a:=by
 have t:uT I s=(match bp I.D 9 s.i with
  | Ym e=> Ym e
  | Yn (n,j)=>match cD (jE I.D) n j with
   | Ym e=> Ym e
   | Yn (l,k)=> Yn {s with gl:=s.gl++l.map (·.1),dW:=s.dW++l.map (·.2),i:=k}):=rfl
 generalize uT I s=R at *;obtain⟨tv,gv,B,L,N,P,-,-⟩:=h.kT;obtain⟨hc,hf⟩:=ae B;have d:=fM h.rd 9 Vb Vb;have g:=λn j=>cz (D:=I.D) (lim:=9) (i:=s.i) (n:=n) (j:=j)
 generalize bp I.D 9 s.i=a at *;match a,t,d,g with
 | Ym e,t,d,_=>
  go_enter func78,ntmps78;go_wp2_with fail;refine d.mono ?_;rintro r S⟨⟨T,j,rfl,⟨u,rfl,m,o⟩,G⟩,z⟩;go_wp2;go_ret;rw[t];exact⟨⟨aj u,U,u,U,m,o⟩,h.iF z⟩
 | Yn (n,j),t,d,g=>
  have hn:=(g n j U).1;go_enter func78,ntmps78;go_wp2_with fail;refine d.mono ?_;rintro r S⟨⟨v,rfl,rfl,G⟩,z⟩;have W:=Z (h.read z G);have C:=Z (h.iF z);go_wp2;go_loopw [18] (λb wr=> ∃(k A:Nat) (l:List ((UInt8×Bool)×Nat)),k<=n/\b= V O k/\l.length=k/\jd I wr {s with i:=A,gl:=s.gl++l.map (·.1),dW:=s.dW++l.map (·.2)}/\Kp (oX I) w wr/\cD (jE I.D) n j=wM l (cD (jE I.D) (n-k) A)) (λb _=>n - (intOf b).toNat);case atStart=>exact⟨0,j,[],Y,U,U,by simpa using W.out,C,by rw[tE];rfl⟩
  case round=>
   obtain⟨k,A,l,hk,rfl,p,y,f,b⟩:=hrel;have E:=f.size;by_cases X:k<n
   .rw[show n-k=(n-k-1)+1 by omega,qG]at b;have c:=yg y (by simp[p];omega) (by simp[p];omega);unfold EP at c;simp only at c;generalize jE I.D A=Q2 at *;match Q2,b,c with
    | Ym e,b,c=>
     go_wp2_with fail;refine c.mono ?_;rintro r w3⟨⟨T,rfl,u,rfl,m,o⟩,F⟩;have x:=Vk E m;have q:=Z (f.trans F);go_wp2;go_ret;rw[t];show eG _ _ _ (match cD (jE I.D) n j with | Ym e=> Ym e| Yn (l,k)=> Yn {s with gl:=s.gl++l.map (·.1),dW:=s.dW++l.map (·.2),i:=k}) _/\_
     rw[b];exact⟨⟨aj u,U,u,U,x,o⟩,q⟩
    | Yn ((x,v),m),b,c=>
     go_wp2_with fail;refine c.mono ?_;rintro r w3⟨⟨rfl,o⟩,F⟩;have q:=Z (f.trans F);go_wp2;go_roundw;case rel=>exact⟨k+1,m,l++[(x,v)],Y,by go_num,by simp[p],by simpa using o,q,by rw[b,show n - (k+1)=n-k-1 by omega]⟩
     case measure=>simp[intOf];omega
   .obtain rfl :k=n:=Y
    rw[Wr]at b;go_wp2;go_ret;rw[t];show eG _ _ _ (match cD (jE I.D) k j with | Ym e=> Ym e| Yn (l,k)=> Yn {s with gl:=s.gl++l.map (·.1),dW:=s.dW++l.map (·.2),i:=k}) _/\_
    rw[b,cD,wM,VF];exact⟨⟨U,y⟩,f⟩
end
def Ph(b:∀k,k<K.funcs.length->(K.funcs.getD k ([],[])).1.length<=8/\(K.funcs.getD k ([],[])).2.length<=1):∀(F N:Nat) (s a:Bd),Sz N s->gw K F s= Yn a->s.i<=a.i/\a.ao.length<=N+18*(a.i-s.i):=by
 intro F;induction F with
 |zero=>intro N s a z h;cases h;exact⟨cQ,Vk z.cd (VI _ _)⟩
 |succ F ih=>
  intro N s a z h;rw[gw]at h;split at h
  .split at h
   .cases h
   .cases h;exact⟨cQ,Vk z.cd (VI _ _)⟩
  .rename_i c;split at h
   .cases h
   .rename_i e d;obtain⟨f,hi⟩:=uP c z b d;grind
def iH(a b:List dQ):Prop:=a.length<=b.length/\ ∀q,q<a.length->(b.getD q bD).op=(a.getD q bD).op/\(b.getD q bD).num=(a.getD q bD).num/\(b.getD q bD).aH=(a.getD q bD).aH/\(b.getD q bD).keep=(a.getD q bD).keep
theorem iH.refl(a:List dQ):iH a a:=⟨cQ,λ_ _=>⟨U,U,U,U⟩⟩
theorem iH.trans{a b c:List dQ}(h:iH a b)(k:iH b c):iH a c:=
 ⟨Vk h.1 k.1,λq d=>by
  have e:=h.2 q d;have f:=k.2 q (Vm d h.1);grind⟩
def RG{l r:List dQ}(h:k<l.length):(l++r).getD k bD=l.getD k bD:=by
 grind
def UF(l:List dQ)(x:dQ):(l++[x]).getD l.length bD=x:=Vc
def xe(s:Bd)(n:Nat):(dZ s n).ao.length=s.ao.length:=by simp[dZ]
def Cp(s:Bd)(n:Nat)(a:k<s.ao.length):(dZ s n).ao.getD k bD=if n=k then {s.ao.getD k bD with goal:=s.ao.length}else s.ao.getD k bD:=by
 show((s.ao.set n {s.ao.getD n ⟨0,0,0,0,0⟩with goal:=s.ao.length}).getD k bD)=_
 grind
theorem iH.UG(s:Bd)(n:Nat):iH s.ao (dZ s n).ao:=by
 refine⟨XG (xe s n).symm,λq a=>?_⟩;rw[Cp s n a];grind
def qu(l:List Nat):∀s:Bd,(cC l s).ao.length=s.ao.length/\(cC l s).stack=s.stack/\(cC l s).af=s.af/\(cC l s).i=s.i/\(cC l s).pos=s.pos/\(cC l s).aR=s.aR/\iH s.ao (cC l s).ao/\
  ∀q,q<s.ao.length->(cC l s).ao.getD q bD=if q∈l then {s.ao.getD q bD with goal:=s.ao.length}else s.ao.getD q bD:=by
 induction l with
 |nil=>simp_all[iH.refl,cC]
 |cons a l ih=>
  intro s;have e:cC (a::l) s=cC l (dZ s a):=rfl;obtain⟨c,d,f,g,h,i,j,k⟩:=ih (dZ s a);rw[e];have b:=xe s a;refine⟨c.trans b,d,f,g,h,i,(iH.UG s a).trans j,λq m=>?_⟩;rw[k q Y,Cp s a m,b];by_cases n:q∈l<;>grind
structure Pt where
 lo:List UInt8
 res:List UInt8
 st:List UInt8
 dp:Nat
abbrev dA:=Nat->Option Pt
def Goes(T:dA)(p:Pt)(q:Nat)(st:List UInt8):Prop:= ∃d,T q=M ⟨p.lo,p.res,st,d⟩
def Pw(T:dA)(p:Pt)(st:List UInt8)(x:dQ):Prop:=
 x.aH+x.keep<=st.length/\ ∃d,T x.goal=M ⟨p.lo,p.res,st.take x.aH++st.drop (st.length-x.keep),d⟩/\(x.op=5->d<p.dp)
inductive EY (fs:List Ty) (gl:List (UInt8×Bool)) (T:dA) (ao:List dQ) (q:Nat) (p:Pt) (x:dQ):Prop
 |stop (h:x.op=0)
 |into (h:x.op=2\/x.op=3) (g:Goes T p (q+1) p.st)
 |Jt (st:List UInt8) (h:x.op=4) (e:p.st=st++[127]) (g:Goes T p (q+1) st) (j:Pw T p st x)
 |nK (h:x.op=5\/x.op=12) (j:Pw T p p.st x)
 |AM (h:x.op=11) (e:p.st=p.res)
 |cond (st:List UInt8) (h:x.op=13) (e:p.st=st++[127]) (g:Goes T p (q+1) st) (j:Pw T p st x)
 |table (st:List UInt8) (h:x.op=14) (e:p.st=st++[127]) (g:∀k,k<=x.num->Goes T p (q+1+k) st/\q+1+k<ao.length/\(ao.getD (q+1+k) bD).op=12)
 |call (st:List UInt8) (h:x.op=16) (hn:x.num<fs.length) (e:p.st=st++(fs.getD x.num ([],[])).1) (g:Goes T p (q+1) (st++(fs.getD x.num ([],[])).2))
 |drop (st:List UInt8) (t:UInt8) (h:x.op=26) (e:p.st=st++[t]) (g:Goes T p (q+1) st)
 |choose (st:List UInt8) (t:UInt8) (h:x.op=27) (e:p.st=st++[t]++[t]++[127]) (g:Goes T p (q+1) (st++[t]))
 |CP (h:x.op=32) (hn:x.num<p.lo.length) (g:Goes T p (q+1) (p.st++[p.lo.getD x.num 0]))
 |EZ (st:List UInt8) (h:x.op=33) (hn:x.num<p.lo.length) (e:p.st=st++[p.lo.getD x.num 0]) (g:Goes T p (q+1) st)
 |Px (st:List UInt8) (h:x.op=34) (hn:x.num<p.lo.length) (e:p.st=st++[p.lo.getD x.num 0]) (g:Goes T p (q+1) (st++[p.lo.getD x.num 0]))
 |Py (h:x.op=35) (hn:x.num<gl.length) (g:Goes T p (q+1) (p.st++[(gl.getD x.num (0,Yj)).1]))
 |Pz (st:List UInt8) (h:x.op=36) (hn:x.num<gl.length) (e:p.st=st++[(gl.getD x.num (0,Yj)).1]) (g:Goes T p (q+1) st)
 |plain (r:mQ) (st:List UInt8) (hr:eu x.op=M r) (h4:r.bM≠4) (e:p.st=st++r.takes) (g:Goes T p (q+1) (st++r.gives)) (hn:x.num<18446744073709551616) (hn':r.bM≠3->x.num<4294967296)
structure acK(T:dA)(lo res:List UInt8)(ao:List dQ)(pre:List UInt8)(k:Nat)(b:Bk)(q:Nat):Prop where
 lt:q<ao.length
 ht:(ao.getD q bD).aH=b.aH
 kp:(ao.getD q bD).keep=b.aL.length
 ex:T q=H\/ ∃d st,(((ao.getD q bD).op=5\/(ao.getD q bD).op=12)/\T q=M ⟨lo,res,st,d⟩/\((ao.getD q bD).op=5->k<d)\/(ao.getD q bD).op=13/\T q=M ⟨lo,res,st++[127],d⟩/\ ∃d',T (q+1)=M ⟨lo,res,st,d'⟩)/\
  b.aH+b.aL.length<=st.length/\st.take b.aH=pre/\st.drop (st.length-b.aL.length)=b.aL
structure abr(T:dA)(lo res:List UInt8)(ao:List dQ)(pre:List UInt8)(k:Nat)(b:Bk):Prop where
 w:∀q∈b.waits,b.bq≠2/\acK T lo res ao pre k b q
 i:b.bq=3-> ∃q d d',b.start=q+1/\q<ao.length/\(ao.getD q bD).op=4/\(ao.getD q bD).aH=b.aH/\(ao.getD q bD).keep=0/\T q=M ⟨lo,res,pre++[127],d⟩/\T (q+1)=M ⟨lo,res,pre,d'⟩
 l:b.bq=2-> ∃d,T b.start=M ⟨lo,res,pre,d⟩
 z:b.bq=0↔k=0
 r:k=0->b.aL=res/\b.aH=0
def abt(lo res:List UInt8)(s:Bd):Option Pt:=if s.aR=Yk\/s.af.length=0 then H else M ⟨lo,res,s.stack,s.af.length⟩
structure abu(fs:List Ty)(gl:List (UInt8×Bool))(lo res:List UInt8)(M:Nat)(X:Nat->Prop)(T:dA)(s:Bd):Prop where
 ed:∀q p,q<s.ao.length->T q=some p->X q\/(∃k,k<s.af.length/\(q∈(s.bk k).waits\/((s.bk k).bq=3/\(s.bk k).start=q+1)))\/EY fs gl T s.ao q p (s.ao.getD q bD)
 yX:T s.ao.length=abt lo res s
 far:∀q,s.ao.length<q->T q=H
 az:∀k,k<s.af.length->abr T lo res s.ao (s.stack.take (s.bk k).aH) k (s.bk k)
 bd:∀q p,T q=some p->p.st.length<=M/\p.dp<=17/\p.lo.length<=32
def GL(l:List UInt8)(h:0<l.length):l=l.take (l.length-1)++[l.getD (l.length-1) 0]:=by
 grind[List.take_append_getElem]
theorem lx(h:cX E=M (g,e)):E.stack=e.stack++[g]/\E.top.aH<=e.stack.length/\e={E with stack:=e.stack}:=by
 unfold cX at h;split at h
 .cases h
 .rename_i a;cases h;exact⟨GL _ Y,Vd,U⟩
def im(h:cO E g=M e):E.stack=e.stack++[g]/\E.top.aH<=e.stack.length/\e={E with stack:=e.stack}:=by
 grind[cO,lx]
def GM(k:Nat):∀{s d:Bd},s.top.aH<=s.stack.length->k<=l.length->fh l k s=M d->s.stack=d.stack++l.take k/\s.top.aH<=d.stack.length/\d={s with stack:=d.stack}:=by
 induction k with
 |zero=>intro s d e _ h;cases h;grind
 |succ k ih=>
  intro s d e j h;rw[fh]at h;split at h
  .cases h
  .rename_i f g;obtain⟨a,b,c⟩:=im g;have i:f.top=s.top:=by rw[c];rfl
   grind[List.take_add_one]
def om(a:E.top.aH<=E.stack.length)(h:bQ E l=M e):E.stack=e.stack++l/\E.top.aH<=e.stack.length/\e={E with stack:=e.stack}:=by
 have:=GM l.length a cQ h;grind
def CA(d:E.top.aH<=E.stack.length)(h:dg E k=M e):e=E/\ ∃l,E.stack=l++aO (E.bk k)/\E.top.aH<=l.length:=by
 unfold dg at h;rw[VX]at h;obtain⟨f,g,rfl⟩:=h;obtain⟨a,b,c⟩:=om d g;refine⟨?_,f.stack,a,b⟩;unfold fj;rw[<-a,c]
section
variable{fs:List Ty}{gl:List (UInt8×Bool)}{lo res:List UInt8}{M N:Nat}{X:Nat->Prop}{T:dA}{s:Bd}
end
section
variable{fs:List Ty}{gl:List (UInt8×Bool)}{lo res:List UInt8}{M N:Nat}{X:Nat->Prop}{T:dA}{s:Bd}
end
section
variable{fs:List Ty}{gl:List (UInt8×Bool)}{lo res:List UInt8}{M N:Nat}{X:Nat->Prop}{T:dA}{s:Bd}
end
section
variable{c:nt}{res:List UInt8}{M N:Nat}{T:dA}{s s':Bd}
variable(h:abu c.funcs c.gl c.aZ res M (λ_=>False) T s)(z:Sz N s)(MZ:c.aZ.length<=32)(hne:0<s.af.length)(hM:N+18<=M)
include h z MZ hne hM
end
section
variable{c:nt}{res:List UInt8}{M N:Nat}{T:dA}{s s':Bd}
variable(h:abu c.funcs c.gl c.aZ res M (λ_=>False) T s)(z:Sz N s)(MZ:c.aZ.length<=32)(hne:0<s.af.length)(hM:N+18<=M)
include h z MZ hne hM
omit h z MZ hne hM in
theorem G9(h:eh l k a= Yn (t,j)):t<18446744073709551616/\(k≠3->t<4294967296):=by
 unfold eh at h;split at h
 .have :=(DB h).1;omega
 grind
end
def bC{w:Yw}(h:w.heap.size=k)(o:Obj):(w.alloc o).heap[k]?=M o:=by
 grind[ai]
def ER{w:Yw}{pb:Nat}{gv:Yx}{ad1 ad2:Option Addr}{l1 c1 l2 c2:Nat}(h:w.heap[a]?=M (Yl #[v,u,gv,aj t] 182))(f:∃d n b,gv= Q d n b):
  Yy prog 144 #[aj a,aj pb,.agg #[Q ad1 l1 c1,Q ad2 l2 c2]] w λr c=> ∃e g,r= Yq (aj e)/\w.heap.size<=e/\w.heap.size<=g/\e≠g/\g<c.heap.size/\
   c.heap[e]?=M (Yl #[aj pb,aj t,gv,Q H 0 0,Q H 0 0,Q (M ⟨g,0,H⟩) 1 1,V O 0,Yt Yj] 263)/\
   c.heap[g]?=M (Yl #[V O 0,Q ad2 l2 c2,V O 0,V O 0,Q H 0 0] 298)/\Kp no w c:=by
 obtain⟨d,n,b,rfl⟩:=f;have hS:∀W,Kp no w W-> ∀q,W.cell? ⟨a,q,H⟩=#[v,u,Q d n b,aj t][q]? :=λW k=>(ae (k.az h id)).1
 have e:=Z hS;go_enter func144,ntmps144;go_wp2_with fail;refine rj 12 12 (λc=> ∀q,c.cell? ⟨a,q,H⟩=#[v,u,Q d n b,aj t][q]?) ?hS λhS=>?_
 case hS=>exact e _ ((((Kp.refl no w).alloc _)).drew)
 refine tj 0 ?_;iterate 9 refine tn ?_
 refine oj 10 λK c=>?_
 go_simp;refine c _ _ (e _ (((((Kp.refl no w).alloc _)).drew).alloc _)) (λhS=>?_);refine tj 11 ?_;refine dj ?_;go_wp2;go_ret;refine⟨w.heap.size+1,w.heap.size+2,U,Y,Y,Y,Vc,?_,?_,?_⟩
 .exact ah (w:=(w.alloc _).alloc _) (bC Vc _)
 .exact bC (w:=(w.alloc _).alloc _) Vc _
 .exact((((Kp.refl no w).alloc _).alloc _).alloc _).drew
section
variable{I:iO}{w w':World}{s:l7}{role:Nat->Nat}{tv gv fv jB cv:Value}{my:List Pc}{fs:List Pd}
def cy.far(h:cy I w s role tv gv fv jB cv my fs)(a:Kp (λb=>(λr=>r=9) (role b)) w w'):cy I w' s role tv gv fv jB cv my fs:=
 ⟨Vk h.base a.size,(h.DV (X:=λr=>r=9) a Vb Vb:),(h.ye (X:=λr=>r=9) a Vb:),(h.nV (X:=λr=>r=9) a Vb:),(h.pM (X:=λr=>r=9) a Vb:),(h.pN (X:=λr=>r=9) a Vb:),(h.rQ (X:=λr=>r=9) a Vb:),(h.vT (X:=λr=>r=9) a Vb:),(h.jD (X:=λr=>r=9) a Vb:),h.Lr,h.Lt,
  h.CL (X:=λr=>r=9) a Vb,h.zf (X:=λr=>r=9) a Vb,h.r1,h.r2,h.r3,h.r4,h.r5,h.r6,h.r7,h.r8,h.CM (X:=λr=>r=9) a,h.zg (X:=λr=>r=9) a,h.low,h.CK,h.M0,h.Jn⟩
theorem cy.fn(h:cy I w s role tv gv fv jB cv my fs)(p:t<s.eb.length):∃a b x,fv= Q (M ⟨a,0,H⟩) s.eb.length b/\s.eb.length<=b/\fs[t]?=M x/\x.1=s.eb.getD t ⟨([],[]),0,0⟩/\x∈fs/\
  w.cell? ⟨a,t*4,H⟩=M x.2.1/\w.cell? ⟨a,t*4+1,H⟩=M x.2.2/\w.cell? ⟨a,t*4+2,H⟩=M (V O x.1.aZ)/\w.cell? ⟨a,t*4+3,H⟩=M (V O x.1.entry)/\(∀k,w.frozen? ⟨a,k,H⟩=Yj):=by
 have q:s.eb.length=fs.length:=by rw[h.Lt,VH]
 obtain⟨x,d⟩:∃x,fs[t]?=M x:=⟨fs[t]'Y,Vc⟩;have l:=Vw d;have e:s.eb.getD t ⟨([],[]),0,0⟩=x.1:=by rw[h.Lt];grind
 obtain⟨a,b,f,-,-⟩:=h.funcs.form Y;obtain⟨m,n,g,i⟩:=(aw.own h.funcs).aJ;subst f;cases g;have c:∀j,j<4->w.cell? ⟨a,t*4+j,H⟩=(j9 x)[j]? :=by
  intro j o;rw[h.funcs.cellAt _ Y,kI Pe fs t j o,d];rfl
 exact⟨a,b,x,U,i,d,e.symm,l,c 0 Vb,c 1 Vb,c 2 Vb,c 3 Vb,λk=>h.funcs.frozenAt k⟩
def cy.abn(h:cy I w s role tv gv fv jB cv my fs){x:Pd}(e:fv= Q (M ⟨a,0,H⟩) s.eb.length j)(i:fs[t]?=M x)(L d:Nat):
  cy I ((w.setCell ⟨a,t*4+2,H⟩ (V O L)).setCell ⟨a,t*4+3,H⟩ (V O d)) {s with eb:=s.eb.set t ⟨x.1.typ,L,d⟩} role tv gv fv jB cv my (fs.set t (⟨x.1.typ,L,d⟩,x.2.1,x.2.2)):=by
 subst e;have f:=Vw i;have k:Kp (λb=>(λr=>r=6) _) w ((w.setCell ⟨a,t*4+2,H⟩ (V O L)).setCell ⟨a,t*4+3,H⟩ (V O d)):=
  Kp.bE (Kp.bE (Kp.refl _ w) (b:=a) (h.r6 a U) _ _) (b:=a) (h.r6 a U) _ _
 have l:=(h.funcs.stored (t*4+2) (V O L)).1;have m:=(l.stored (t*4+3) (V O d)).1;have e1:(fs.flatMap j9).set _ (V O L)=(fs.set t (⟨x.1.typ,L,x.1.entry⟩,x.2.1,x.2.2)).flatMap j9:=pj Pe fs t 2 Vb x _ _ i U;have g:(fs.set t (⟨x.1.typ,L,x.1.entry⟩,x.2.1,x.2.2))[t]?=M (⟨x.1.typ,L,x.1.entry⟩,x.2.1,x.2.2):=by
  grind
 have e2:=pj Pe _ t 3 Vb _ (⟨x.1.typ,L,d⟩,x.2.1,x.2.2) (V O d) g U;rw[e1,e2,List.set_set]at m;refine⟨Vk h.base k.size,(h.DV (X:=λr=>r=6) k Vb Vb:),(h.ye (X:=λr=>r=6) k Vb:),(h.nV (X:=λr=>r=6) k Vb:),(h.pM (X:=λr=>r=6) k Vb:),(h.pN (X:=λr=>r=6) k Vb:),?_,(h.vT (X:=λr=>r=6) k Vb:),(h.jD (X:=λr=>r=6) k Vb:),h.Lr,?_,
  h.CL (X:=λr=>r=6) k Vb,?_,h.r1,h.r2,h.r3,h.r4,h.r5,h.r6,h.r7,h.r8,h.CM (X:=λr=>r=6) k,?_,h.low,h.CK,h.M0,?_⟩
 .grind
 .rw[h.Lt,Xf]
 .intro y c;rcases VZ c with c|rfl
  .exact h.zf (X:=λr=>r=6) k Vb y c
  .exact h.zf (X:=λr=>r=6) k Vb x f
 .intro y c;rcases VZ c with c|rfl
  .exact h.zg (X:=λr=>r=6) k y c
  .exact h.zg (X:=λr=>r=6) k x f
 .intro y c;rcases VZ c with c|rfl
  .exact h.Jn y c
  .exact h.Jn x f
def mD(pb mb bb g:Nat)(cv:Yx):Nat->Nat:=λb=>if b=pb then 1 else if b=mb then 2 else if b=bb then 3 else if b=g then 5 else if cv.ownBlock=M b then 6 else 0
structure CN(role:Nat->Nat)(pb bb g:Nat):Prop where
 p9:role pb=9
 b9:role bb=9
 g9:role g=9
 d1:pb≠bb
 d2:pb≠g
 d3:bb≠g
def rT(I:iO)(w:Yw)(s:l7)(cv fv jB gv dv lv:Yx)(pb bb g:Nat)(P lo:List UInt8):ez:=
 {B:=I.B,rb:=pb,bb:=bb,mb:=I.mb,dv:=dv,fv:=fv,jB:=jB,gv:=gv,lv:=lv,ro:=λb=>b<w.heap.size/\mD pb I.mb bb g cv b=0,bI:=s.bI,
  c:=⟨P,s.eb.map (·.typ),s.gl,lo⟩}
def nM(b:CN role k a t)(h:cy I w s role tv gv fv jB cv my fs)(c:role j≠9)(d:role j≠2)(f:role j≠8):mD k I.mb a t cv j=0:=by
 unfold mD;rw[Va (λe=>c (by rw[e];exact b.p9)),Va (λe=>d (by rw[e];exact h.r2)),Va (λe=>c (by rw[e];exact b.b9)),Va (λe=>c (by rw[e];exact b.g9)),Va (λe=>f (h.r8 j e))]
def UZ{lv rv:Yx}{lo res:List UInt8}(f:CN role t B d)(h:cy I w s role tv gv fv jB cv my fs)(L:kC w t u l m)(J:∀b,u.ownBlock=M b->I.dv.ownBlock=M b)
  (c:w.heap[B]?=M (Yl #[aj t,aj I.mb,gv,lv,Q H 0 0,Q (M ⟨d,0,H⟩) 1 1,V O 0,Yt Yj] 263))
  (N:w.heap[d]?=M (Yl #[V O 0,rv,V O 0,V O 0,Q H 0 0] 298))(z:I.B<=d)
  (P:aq w lv lo)(o:∀b,lv.ownBlock=M b->b<w.heap.size/\b≠t/\b≠I.mb/\b≠B/\b≠d/\cv.ownBlock≠M b)(R:aq w rv res)(S:∀b,rv.ownBlock=M b->role b=0/\b<w.heap.size)
  (X:s.eb.length<=16)(ng:s.gl.length<=8)(T:lo.length<=32)(ht:∀x∈s.eb,x.typ.1.length<=8/\x.typ.2.length<=1):
  cU (rT I w s cv fv jB gv u lv t B d l lo) d w ⟨m,s.ao,[],[⟨0,res,0,0,[]⟩],0,Yj⟩:=by
 have A:∀{b:Nat},role b=2->b≠t/\b≠B/\b≠d:=λ{b} e=>⟨λx=>(by rw[x,f.p9]at e;cases e),λx=>(by rw[x,f.b9]at e;cases e),λx=>(by rw[x,f.g9]at e;cases e)⟩
 have C:∀{b:Nat},role b=8->b≠t/\b≠B/\b≠d:=λ{b} e=>⟨λx=>(by rw[x,f.p9]at e;cases e),λx=>(by rw[x,f.b9]at e;cases e),λx=>(by rw[x,f.g9]at e;cases e)⟩
 obtain⟨m1,m2,m3⟩:=A h.r2;have c8:∀b,cv.ownBlock=M b->b≠I.mb:=λb c e=>by have:=h.r8 b c;rw[e,h.r2]at this;cases this
 have p:∀{b:Nat},role b≠9->role b≠2->role b≠8->mD t I.mb B d cv b=0:=λe g i=>nM f h e g i
 have q:∀{v:Yx} {k:Nat},(∀b,v.ownBlock=M b->role b=k)->k≠9->k≠2->k≠8-> ∀b,v.ownBlock=M b->mD t I.mb B d cv b=0:=λa e g i b c=>p Ve Ve Ve
 have D:∀{v:Yx},nS (λb=>role b=0/\b<w.heap.size) v->nS (λb=>b<w.heap.size/\mD t I.mb B d cv b=0) v:=λa b c=>⟨(a b c).2,p (by rw[(a b c).1];decide) (by rw[(a b c).1];decide) (by rw[(a b c).1];decide)⟩
 have E:=D (λb c=>⟨h.low b (h.CK b (J b c)),Vm (I.MZ b (h.CK b (J b c))) h.base⟩);refine⟨mD t I.mb B d cv,Q H 0 0,cv,1,[(⟨0,res,0,0,[]⟩,rv,Q H 0 0)],?_⟩;refine⟨⟨Vk I.hBC h.base,E,?_,?_,P,λb c=>⟨(o b c).1,?_⟩,by grind[rT],by grind[rT],T,?_⟩,L,c,h.mod,World.ownsRow_nil _ _ _ _,?_,h.ao,U,?_,?_,?_,?_,?_,λb c=>(by cases c),?_,?_,?_,?_,λb c=>c.2,λb c=>c.1⟩
 .obtain⟨F,g,i,r⟩:=(aw.own h.funcs).aJ;refine⟨F,g,by grind[rT],by grind[rT],λk K=>?_⟩;have n:k<s.eb.length:=by grind[rT]
  obtain⟨a,G,x,j,-,y,W,e,c0,c1,-,-,-⟩:=h.fn n;rw[i]at j;cases j;have v:((rT I w s cv fv jB gv u lv t B d l lo).c.funcs.getD k ([],[]))=x.1.typ:=by
   show((s.eb.map _).getD k _)=_
   grind
  refine⟨a,0,x.2.1,x.2.2,U,⟨bR h.funcs (by rw[i];rfl),q h.r6 Vb Vb Vb a (by rw[i];rfl)⟩,Ve,Ve,?_,D (h.AH x e).1,?_,D (h.AH x e).2⟩
  .rw[v];exact(h.Dv x e).1
  .rw[v];exact(h.Dv x e).2
 .obtain⟨F,g,e,r⟩:=(aw.own h.bO).aJ;refine⟨F,g,e,r,λk K=>?_⟩;have n:k<s.gl.length:=K;obtain⟨a,G,i,-,-⟩:=h.bO.form Y;have v:∀j,j<2->w.cell? ⟨a,k*2+j,H⟩=(j8 (s.gl.getD k (0,Yj)))[j]? :=by
   intro j K;have:=h.bO;rw[i]at this;rw[this.cellAt _ Y,kI abl s.gl k j K,Vl,Vj n];rfl
  rw[e]at i;cases i;exact⟨a,0,U,⟨bR h.bO (by rw[e];rfl),q h.r5 Vb Vb Vb a (by rw[e];rfl)⟩,(by rw[Vv];exact v 0 Vb),(by rw[Vv];exact v 1 Vb)⟩
 .obtain⟨a,e,g,i,j,n⟩:=o b c;unfold mD;grind
 .grind[rT]
 .exact⟨U,Yp ⟨d,1,_,U,z,N,cQ,by simp[maxLen],U,U⟩⟩
 .grind[World.ownsRow_nil]
 .grind
 .exact Vi U
 .show mD t I.mb B d cv I.mb=2
  unfold mD;grind
 .show mD t I.mb B d cv B=3
  unfold mD;rw[Va (WZ f.d1),Va (WZ m2),Vi U]
 .unfold mD;rw[Va (WZ f.d2),Va (WZ m3),Va (WZ f.d3),Vi U]
 .intro b c;obtain⟨a,e,g⟩:=C (h.r8 b c);unfold mD;grind
 .intro k x y b c;match k with
  |0=>cases y;cases c
  |k+1=>cases y
 .intro k x y b c;grind
def Pj{lv:Yx}{P lo:List UInt8}(C:CN role a t j)(h:cy I w s role tv gv fv jB cv my fs)(k:Kp (fy (rT I w s cv fv jB gv u lv a t j P lo).ro) w w')(i:cU (rT I w s cv fv jB gv u lv a t j P lo) B w' E):
  jd I w' {s with ao:=E.ao}:=by
 obtain⟨D,J,g,K,L,i⟩:=i;have q:∀b,b<w.heap.size->role b≠9->role b≠2->role b≠8->(rT I w s cv fv jB gv u lv a t j P lo).ro b:=λb c l p r=>⟨c,nM C h l p r⟩
 have F:D I.mb=2:=i.r2;have G:∀b,(rT I w s cv fv jB gv u lv a t j P lo).ro b->g.ownBlock≠M b:=λb d e=>by have A:=i.ro b d;rw[i.r6 b e]at A;cases A
 have y:g.ownBlock≠M I.mb:=λe=>cj (i.r6 _ e)
 obtain⟨m,z⟩:=bL (λb=>if g.ownBlock=M b then 8 else if b<w.heap.size/\role b≠8 then role b else 0:Nat->Nat);have d:∀{b:Nat} {n:Nat},role b=n->b<w.heap.size->n≠9->n≠2->n≠8->m b=n:=by
  grind
 have f:∀{b:Nat} {n:Nat},role b=n->b<w.heap.size->n≠9->n≠2->n≠8-> ¬fy (rT I w s cv fv jB gv u lv a t j P lo).ro b:=λe n l p r o=>o (q _ n (e▸l) (e▸p) (e▸r))
 have o:∀{v:Yx},nS (λb=>role b=0/\b<w.heap.size) v->nS (λb=>m b=0/\b<w'.heap.size) v:=λe b c=>⟨d (e b c).1 (e b c).2 Vb Vb Vb,Vm (e b c).2 k.size⟩
 have p:∀{v:Yx} {l:List UInt8},nS (λb=>role b=0/\b<w.heap.size) v->aq w v l->aq w' v l:=λe r=>r.kp k (λb c=>f (e b c).1 (e b c).2 Vb Vb Vb)
 have l:=au h.rd.az;have r:=au h.look;refine⟨m,tv,gv,fv,jB,g,my,fs,?_⟩;refine⟨Vk h.base k.size,h.rd.kp k (f h.r1 l Vb Vb Vb) (λb c n=>f (h.low b (h.CK b c)) n Vb Vb Vb),k.az h.look (f h.r3 r Vb Vb Vb),i.mod,
  k.own h.types (λb c=>f (h.r4 b c) (bR h.types c) Vb Vb Vb),k.own h.bO (λb c=>f (h.r5 b c) (bR h.bO c) Vb Vb Vb),
  k.own h.funcs (λb c=>f (h.r6 b c) (bR h.funcs c) Vb Vb Vb),k.own h.dW (λb c=>f (h.r7 b c) (bR h.dW c) Vb Vb Vb),i.ao,h.Lr,h.Lt,
  λx e=>⟨p (h.Jm x e).1 (h.Ue x e).1,p (h.Jm x e).2 (h.Ue x e).2⟩,λx e=>⟨p (h.AH x e).1 (h.Dv x e).1,p (h.AH x e).2 (h.Dv x e).2⟩,
  d h.r1 l Vb Vb Vb,?_,d h.r3 r Vb Vb Vb,
  λb c=>d (h.r4 b c) (bR h.types c) Vb Vb Vb,λb c=>d (h.r5 b c) (bR h.bO c) Vb Vb Vb,λb c=>d (h.r6 b c) (bR h.funcs c) Vb Vb Vb,λb c=>d (h.r7 b c) (bR h.dW c) Vb Vb Vb,?_,
  λx e=>⟨o (h.Jm x e).1,o (h.Jm x e).2⟩,λx e=>⟨o (h.AH x e).1,o (h.AH x e).2⟩,λb c=>d (h.low b c) (Vm (I.MZ b c) h.base) Vb Vb Vb,h.CK,h.M0,h.Jn⟩
 .rw[z];simp only[Va y,Vi (And.intro (au h.mod) (show role I.mb≠8 by rw[h.r2];decide))];exact h.r2
 grind
end
def vV(P:List UInt8)(ts:List Ty)(gl:List (UInt8×Bool))(typ:Ty)(ao:List dQ)(i:Nat):Except (Int×Int) (vM×List dQ):=
 match gN P (32-typ.1.length) i with
 | Ym e=> Ym e
 | Yn (more,k)=>match gw ⟨P,ts,gl,typ.1++more⟩ 2001 ⟨k,ao,[],[⟨0,typ.2,0,0,[]⟩],0,Yj⟩with
  | Ym e=> Ym e
  | Yn s=> Yn (⟨typ,typ.1.length+more.length,ao.length⟩,s.ao)
def sz0(i:Nat)(a:List dQ)(b:List UInt8)(N:Nat)(c:a.length<=N)(e:b.length<=1):Sz N ⟨i,a,[],[⟨0,b,0,0,[]⟩],0,Yj⟩:=by
 refine⟨Vc,Vc,c,by simp[Bd.top,Bd.bk],λj k f d=>?_,λk d=>?_⟩<;>simp_all[Bd.bk]
def Pk(h:fc l k= Yn (g,j)):k<=j:=by
 unfold fc at h;grind
def Ly{al:List UInt8}(h:bP l al k= Yn (g,j)):k<=j:=by
 unfold bP at h;split at h
 .cases h
 .rename_i a;split at h
  .cases h;exact Pk a
  .cases h
def ES{D al:List UInt8}(n:Nat):∀{i:Nat} {l:List UInt8} {j:Nat},cD (bP D al) n i= Yn (l,j)->i<=j:=by
 induction n with
 |zero=>intro i l j h;cases h;omega
 |succ n ih=>
  intro i l j h;rw[cD]at h;split at h
  .cases h
  .rename_i a;split at h
   .cases h
   .rename_i b;cases h;exact Vk (Ly a) (ih b)
def Pm{D:List UInt8}{most i:Nat}(h:gN D most i= Yn (l,j)):i<=j:=by
 unfold gN at h;split at h
 .cases h
 .rename_i n k a;have:=(cz a).2.1;exact Vk Y (ES n h)
theorem eN.le(h:eN W S)(c:∀b,S b->P b):eN W P:=by
 obtain⟨a,o,b,d,e,f,g,i⟩:=h;exact⟨a,o,b,d,e,c _ f,c _ g,i⟩
section
variable{I:iO}{w0 w:World}{s:l7}{role:Nat->Nat}{tv gv jB cv:Value}{my:List Pc}{fs:List Pd}
def abo(I:iO)(w w':Yw)(s:l7)(j n q:Nat)(m:Except (Int×Int) (vM×List dQ))(r:Ending):Prop:=
 match m with
 | Yn (f,ao)=>r= Yq (Yv H)/\jd I w' {s with i:=j,eb:=s.eb.set n f,ao:=ao}/\ao.length<=q
 | Ym e=> ∃fv,r= Yq fv/\gJ w w' fv e
def CO(H7:cy I w0 s role tv gv (Q (M ⟨a,0,H⟩) s.eb.length t) jB cv my fs)(H8:Kp (one I.rb) w0 w)(s1:kC w I.rb I.dv I.D j){pb:Nat}{P:List UInt8}{i:Nat}(hp:w0.heap.size<=pb)(k6:kC w pb v P i)
  (hd:∀b,v.ownBlock=M b->I.dv.ownBlock=M b)(hn:B<s.eb.length)(hR:eN w I.lo)(nf:s.eb.length<=16)(ng:s.gl.length<=8)(ht:∀x∈s.eb,x.typ.1.length<=8/\x.typ.2.length<=1)(W7:s.ao.length<=18*i):
  Yy prog 112 #[aj I.kb,aj pb,Yv (M ⟨a,B*4,H⟩)] w λr c=>abo I w c s j B (18*P.length) (vV P (s.eb.map (·.typ)) s.gl (s.eb.getD B ⟨([],[]),0,0⟩).typ s.ao i) r/\Kp (oX I) w c:=by
 --the abp lists lie apart from all that is new
 have W5:cy I w0 s (dC role w0.heap.size 9) tv gv _ jB cv my fs:=H7.mM (λk c=>mi c);have n:=W5.zU H8 s1;have p:∀b,w0.heap.size<=b->dC role w0.heap.size 9 b=9:=λb h=>ef h
 generalize dC role w0.heap.size 9=ρ at *;have W8:=H8.size;obtain⟨a',W9,x,H9,y0,hx,k7,k8,c0,c1,c2,c3,cf⟩:=n.fn hn;cases H9;obtain⟨⟨d,y1,y2⟩,pv,rv⟩:=x;simp only at k7 c0 c1 c2 c3;have h0:(s.eb.getD B ⟨([],[]),0,0⟩).typ=d:=by rw[<-k7]
 have s2:d.1.length<=8/\d.2.length<=1:=by
  rw[<-h0];have:s.eb.getD B ⟨([],[]),0,0⟩∈s.eb:=by rw[Vl,Vj hn];exact XH _
  exact ht _ this
 rw[h0];obtain⟨h1,h2⟩:=n.Dv _ k8;obtain⟨k9,w1⟩:=n.AH _ k8;simp only at h1 h2 k9 w1;obtain⟨ap,cp,K0,y3⟩:=h1.aJ;obtain⟨ar,cr,K1,y4⟩:=h2.aJ;have s3:∀b,v.ownBlock=M b->b<w.heap.size:=λb h=>Vm (I.MZ b (n.CK b (hd b h))) n.base
 have u:=oC k6 s3 (32-d.1.length) Y;rw[show((32-d.1.length:Nat):Int)=32 - (d.1.length)by omega]at u;have hM:vV P (s.eb.map (·.typ)) s.gl d s.ao i=(match gN P _ i with
  | Ym e=> Ym e
  | Yn (f,k)=>match gw _ 2001 ⟨k,s.ao,[],[⟨0,d.2,0,0,[]⟩],0,Yj⟩with
   | Ym e=> Ym e
   | Yn s'=> Yn _):=rfl
 have h3:=λl k=>pO (D:=P) (most:=32-d.1.length) (i:=i) (l:=l) (j:=k)
 have h4:=λl k=>Pm (D:=P) (most:=32-d.1.length) (i:=i) (l:=l) (j:=k)
 have s4:∀(L c),(s.eb.set B ⟨d,L,c⟩).map (·.typ)=s.eb.map (·.typ):=by
  intro L c;rw[Xf];have:(s.eb.map (·.typ))[B]'(by simpa using hn)=d:=by
   rw[<-h0,Vl,Vj hn];simp
  conv =>lhs;rw[show(⟨d,L,c⟩:vM).typ=(s.eb.map (·.typ))[B]'(by simpa using hn)from this.symm]
  exact XQ _
 generalize vV P _ s.gl d s.ao i=R at *;generalize gN P _ i=c at *;subst K0 K1;have HM:=Z hM;have HX:=Z hx;have y5:=n.base;have y6:=I.hBC;have y7:=aK n.funcs a U;have y8:=bR n.funcs (b:=a) U;have y9:a<w0.heap.size:=bR H7.funcs U;clear H7 W5 hM hx k8 k7 h0 s3 s1 H8;change Hid _ at p ht s4 hd;replace hR:=Z hR;change Hid _ at k6;replace w1:=Z w1;replace k9:=Z k9;replace h2:=Z h2;replace h1:=Z h1;replace u:=Z u;change Hid _ at n;match c,HM,u,h3,h4 with
 | Ym e,HM,u,_,_=>
  go_enter func112,ntmps112;go_wp2_with fail;refine u.mono ?_;rintro r w2⟨⟨fv,rfl,fb,rfl,h5,J⟩,K⟩;change Hid _ at J;go_wp2;go_ret;rw[HM.out];refine⟨⟨aj fb,U,fb,U,h5,J⟩,K.mono (λb _ (e:b=pb)=>?_)⟩;intro m;have:=n.low b m;rw[e,p.out pb hp]at this;cases this
 | Yn (f,k),HM,u,h3,h4=>
  have z0:=h3 f k U;have z1:=h4 f k U;clear h3 h4;go_enter func112,ntmps112;go_wp2_with fail;refine u.mono ?_;rintro r w2⟨⟨mv,rfl,h6,s5,s6⟩,K⟩;obtain⟨am,cm,K2,z2⟩:=h6.aJ;subst K2;have h7:a≠pb:=Y
  have g0:=K.cell c0 h7;have g1:=K.cell c1 h7;have g2:=K.cell c2 h7;have g3:=K.cell c3 h7;have L:cy I w2 {s with i:=j} ρ tv gv _ jB cv my fs:=n.far (K.mono (λb _ (e:b=pb)=>by rw[e];exact p pb hp));obtain⟨K3,-⟩:=ae L.look;obtain⟨s7,-⟩:=ae L.mod;have K4:∀q,w2.frozen? ⟨a,q,H⟩=false:=λq=>L.funcs.frozenAt q
  obtain⟨ac,cc,h8⟩:=aA L.ao;simp only at h8;have z3:=au L.look;have z4:I.kb≠a:=λe=>by have:=L.r6 a U;rw[<-e,L.r3]at this;cases this
  have z5:I.mb≠a:=λe=>by have:=L.r6 a U;rw[<-e,L.r2]at this;cases this
  clear c0 c1 c2 c3 cf;change Hid _ at s5 s6;replace h6:=Z h6;replace K:=Z K;change Hid _ at h8 L;have w3:=s7 3;rw[h8.out]at w3;simp only[Wk]at w3;clear s7;go_wp2_with fail;have w4:(fs.set B ((⟨d,d.1.length+f.length,s.ao.length⟩:vM),Value.slice ap d.1.length cp,Value.slice ar d.2.length cr))[B]?=M (⟨d,d.1.length+f.length,s.ao.length⟩,Value.slice ap d.1.length cp,Value.slice ar d.2.length cr):=by
   rw[List.getElem?_set_self (VA.1 HX).1]
  have h9:=L.abn U HX (d.1.length+f.length) s.ao.length;have w6:Kp _ w2 ((w2.setCell ⟨a,B*4+2,H⟩ (V O (d.1.length+f.length:Nat))).setCell ⟨a,B*4+3,H⟩ (V O s.ao.length)):=((Kp.refl _ w2).bK _ _).bK _ _;rw[show((d.1.length+f.length:Nat):Int)=d.1.length+(f.length)by omega]at h9 w6;generalize(w2.setCell _ _).setCell _ _=H6 at *;obtain⟨k0,k1⟩:=h9.Dv _ (Vw w4);obtain⟨w7,E⟩:=h9.AH _ (Vw w4);simp only at k0 k1 w7 E;have w8:aq H6 _ f:=h6.kp w6 (λb h (e:b=a)=>cj ((s5 b h).1));have s8:kC H6 pb v P k:=s6.kp w6 (λ(e:pb=a)=>Y) (λb h _ (e:b=a)=>by have:=n.low b (n.CK b (hd b h));rw[e,n.r6 a U]at this;cases this);have w9:=ER (pb:=pb) (ad1:=ap) (l1:=d.1.length) (c1:=cp) (ad2:=ar) (l2:=d.2.length) (c2:=cr) h9.look (by obtain⟨g,y,z⟩:=aA h9.bO;exact⟨g,_,y,z⟩);have z6:=w6.size;have z7:=K.size;clear g0 g1 g2 g3 K3 K4 w3;change Hid _ at s8 w4;replace w8:=Z w8;replace E:=Z E;replace w7:=Z w7;replace k1:=Z k1;replace k0:=Z k0;replace w6:=Z w6;change Hid _ at h9;replace w9:=Z w9;refine w9.mono ?_;rintro r e0⟨y,g,rfl,z8,z9,k2,p0,N,s9,e9⟩;obtain⟨i0,x0,F,x1,x2⟩:=info_parts lj;obtain⟨K5,K6⟩:=ae N;have p1:=e9.size;have p2:=au N;change Hid _ at N s9 e9;go_wp2_with(at_builtin;refine bj _ U _ _ 25 U e0.heap.size 5 i0 _ 1 1 underlying25 x0 F x1 x2 U Vb _ 0 [] U (World.ownsRow_nil _ _ _ _) _ d.1.length _ U (k0.kp e9 bW) (bV _) ?c3 ?c4 cQ ?_);case c3=>unfold maxLen;omega
  case c4=>omega
  intro v1 p3 S e1 K7;have K8:=e1.size;have e2:Kp no e0 p3:=(Kp.refl _ e0).bS e1 (λk e=>by cases e);have e3:=(w8.kp e9 bW).kp e2 bW;obtain⟨ad1,K9,rfl⟩:=aA S;replace e3:=Z e3;change Hid _ at e1 K7 e2;replace S:=Z S;go_wp2_with(at_builtin;go_loud (refine bj _ U _ _ 25 U e0.heap.size 5 i0 (V Ys 0) 1 1 underlying25 x0 F x1 x2 U Vb _ d.1.length _ U S _ f.length _ U e3 (bV _) ?c5 ?c6 K8 ?_));case c5=>unfold maxLen;omega
  case c6=>omega
  intro v2 w5 G x3 W0;have x4:∀b,(Value.slice ad1 d.1.length K9).ownBlock=M b->e0.heap.size<=b:=aK S;have C:Kp no e0 w5:=(e2).bS x3 (λb e=> Yp (x4 b e));have x5:=aK G;have x6:=λb=>bR G (b:=b)
  obtain⟨ad2,z,rfl⟩:=aA G;obtain⟨W1,W2⟩:=ae (C.az N id);clear x3 W0 x4 K5 K6;change Hid _ at C x5 x6;replace G:=Z G;go_wp2_with fail;have p4:=au k6.az;have W6:Kp (λb=>(λr=>r=9) (ρ b)) H6 (w5.setCell ⟨y,3,H⟩ (Q ad2 (d.1.length+f.length) z)):=
   Kp.bE (e9.any.trans C.any) (b:=y) (p y Y) _ _
  have x7:Kp _ e0 (w5.setCell ⟨y,3,H⟩ (Q ad2 (d.1.length+f.length) z)):=Kp.bK C.any _ _;have e4:Kp _ w5 (w5.setCell ⟨y,3,H⟩ (Q ad2 (d.1.length+f.length) z)):=Kp.bK iR _ _;have k3:Kp _ H6 (w5.setCell ⟨y,3,H⟩ (Q ad2 (d.1.length+f.length) z)):=Kp.bK (e9.any.trans C.any) _ _;have x8:=heap_setCell (o:=3) (C.az N id) (Q ad2 (d.1.length+f.length) z);have x9:=x7.az s9 (λ(e:g=y)=>k2 e.symm);have H0:aq w5 (Q ad2 (d.1.length+f.length) z) (d.1++f):=by
   have:=aw.own G;unfold aq;rw[Vn,Wb];exact this
  have e5:=x5.out;have H1:=x6.out;have p5:=C.size;have p6:=e4.size;have W3:=h8.out;generalize w5.setCell _ _=s0 at *;have X:=h9.far W6;have k4:kC s0 pb v P k:=s8.kp k3 (λ(e:pb=y)=>Y) (λb h _ (e:b=y)=>rq (I.MZ b (n.CK b (hd b h))) n.base);have H2:=H0.kp e4 (λb h (e:b=y)=>cj (e5 b h));have H3:=k1.kp k3 (λb h (e:b=y)=>cj ((E b h).2));have T:Kp (oX I) w s0:=by
   refine(K.mono (λb _ (e:b=pb)=>?_)).trans ((w6.mono (λb _ (e:b=a)=>?_)).trans (k3.mono (λb _ (e:b=y)=>?_)))
   .intro m;have:=n.low b m;rw[e,p.out pb hp]at this;cases this
   .intro m;have:=n.low b m;rw[e,n.r6 a U]at this;cases this
   .intro m;have:=n.low b m;rw[e,p.out y Y]at this;cases this
  have hA:CN ρ pb y g:=⟨p pb hp,p y Y,p g Y,Y,Y,k2⟩;have hB:=UZ hA X k4 hd x8 x9 Y H2 (λb h=>by
    have A:=e5 b h;have W:=H1 b h;have q3:=au h9.mod;refine⟨Y,Y,Y,Y,Y,λe=>?_⟩;have:=bR h9.ao e;omega) H3 (λb h=>⟨(E b h).1,cj ((E b h).2)⟩) (by simpa using nf) ng Vd (λx hx=>by
    rcases VZ hx with hx|rfl
    .exact ht x hx
    .exact s2)
  have H4:eN s0 (rT I s0 {s with i:=j,eb:=s.eb.set B ⟨d,d.1.length+f.length,s.ao.length⟩} cv (Q (M ⟨a,0,H⟩) s.eb.length t) jB gv v (Q ad2 (d.1.length+f.length) z) pb y g P (d.1++f)).ro:=
   eN.le (hR.kp T) (λb h=>by
    have W:=X.low b h;exact⟨Vm (I.MZ b h) X.base,nM hA X (by rw[W];decide) (by rw[W];decide) (by rw[W];decide)⟩)
  have p7:=k4.len;have p8:=k4.le;have F:=sz0 k s.ao d.2 (18*k) Y s2.2;have A:=Pb hB H4 F (by show 18*k+18*(P.length-k)<=400000;omega) 2001 (by show P.length-k<2001;omega);have hM:=HM.out;have e6:(rT I s0 {s with i:=j,eb:=s.eb.set B ⟨d,d.1.length+f.length,s.ao.length⟩} cv (Q (M ⟨a,0,H⟩) s.eb.length t) jB gv v (Q ad2 (d.1.length+f.length) z) pb y g P (d.1++f)).c=⟨P,s.eb.map (·.typ),s.gl,d.1++f⟩:=by
   show nt.mk _ _ _ _=_
   rw[s4.out]
  have k5:=λs'=>Ph (λq hq=>by
    have:=hB;obtain⟨_,_,_,_,_,k2⟩:=this;have:=k2.env.res q;rw[e6]at this;exact this hq) 2001 _ _ s' F
  rw[e6]at A;generalize gw _ 2001 _=Q2 at *;have e7:=Z k5;have W4:w.heap.size<=s0.heap.size:=T.size;clear hB H4 k5 k4 H2 H3 x8 x9 H0 e5 H1 W6 x7 e4 k3 F W1 W2 W3;change Hid _ at hM T e6;replace A:=Z A;change Hid _ at X hA;match Q2,hM,A,e7 with
  | Ym e,hM,A,_=>
   refine A.mono ?_;rintro r p9⟨⟨fv,rfl,fb,rfl,h5,J⟩,q⟩;have H5:w.heap.size<=fb:=Vk W4 h5;clear h5;replace q:=Z q;change Hid _ at J;go_wp2;go_ret;rw[hM.out];refine⟨⟨aj fb,U,fb,U,H5,J⟩,T.trans (q.mono (λb h e8=>?_))⟩;refine λm=>e8 ⟨h,?_⟩
   have W:=X.low b m;exact nM hA X (by rw[W];decide) (by rw[W];decide) (by rw[W];decide)
  | Yn s',hM,A,e7=>
   refine A.mono ?_;rintro r p9⟨⟨rfl,g',J⟩,q⟩;have h5:=Pj hA X q J;have e:=J;obtain⟨_,_,_,_,_,e⟩:=e;have H5:=e.rd.le;have k5:=e7 s' U;simp only at k5;have q0:s'.i<=P.length:=H5;clear J e H5;replace q:=Z q;replace h5:=Z h5;go_wp2;go_ret;rw[hM.out];refine⟨⟨U,h5,Y⟩,T.trans (q.mono (λb h e8=>?_))⟩;refine λm=>e8 ⟨h,?_⟩
   have W:=X.low b m;exact nM hA X (by rw[W];decide) (by rw[W];decide) (by rw[W];decide)
end
def LA(l:List vM)(m:Rd (List vM×List dQ)):Rd (List vM×List dQ):=
 match m with
 | Ym e=> Ym e
 | Yn ((fs,c),i)=> Yn ((l++fs,c),i)
def Pn(m:Rd (List vM×List dQ)):LA [] m=m:=by
 cases m with
 |error e=>rfl
 |ok x=>rfl
def LB(D:List UInt8)(b:List Ty)(c:List (UInt8×Bool))(l:List vM)(t:Ty)(rest:List Ty)(a:List dQ)(i:Nat):
  LA l (dq D b c (t::rest) a i)=(match nD D b c t a i with
   | Ym e=> Ym e
   | Yn ((f,c1),j)=>LA (l++[f]) (dq D b c rest c1 j)):=by
 grind[dq,LA]
def Po(D:List UInt8)(g:List Ty)(h:List (UInt8×Bool))(b:Ty)(d:List dQ)(i:Nat):nD D g h b d i=(match UM D i with
 | Ym e=> Ym e
 | Yn (a,j)=>
  if D.length-j<a then Ym (2,i)
  else match vV (D.take (j+a)) g h b d j with
   | Ym e=> Ym e
   | Yn (f,c)=> Yn ((f,c),j+a)):=by
 unfold nD vV;grind
def acE{D:List UInt8}{i n:Nat}(h:UM D i= Yn (n,j)):n<=4294967295/\i<j/\j<=D.length:=by
 have a:bp D (n+1) i= Yn (n,j):=by
  unfold bp;grind
 have b:=cz a;grind[UM]
def Pp{P:List UInt8}{ts:List Ty}{gl:List (UInt8×Bool)}{typ:Ty}{ao:List dQ}{i:Nat}{f:vM}{c:List dQ}(h:vV P ts gl typ ao i= Yn (f,c)):f.typ=typ:=by
 grind[vV]
section
variable{I:iO}{w:World}{s:l7}
def tG(I:iO)(s:l7):Except (Int×Int) l7:=
 match dq I.D (s.eb.map (·.typ)) s.gl (s.eb.map (·.typ)) s.ao s.i with
 | Ym e=> Ym e
 | Yn ((fs,c),k)=> Yn {s with eb:=fs,ao:=c,i:=k}
def yh(h:jd I w s)(hR:eN w I.lo)(nf:s.eb.length<=16)(ng:s.gl.length<=8)(ht:∀x∈s.eb,x.typ.1.length<=8/\x.typ.2.length<=1)(e3:s.ao.length<=18*s.i):
  Yy prog 80 #[aj I.kb] w λr b=>eG I w b (tG I s) r/\Kp (oX I) w b:=by
 have hM:tG I s=(match dq I.D _ s.gl _ s.ao s.i with
  | Ym e=> Ym e
  | Yn ((fs,c),k)=> Yn {s with eb:=fs,ao:=c,i:=k}):=rfl
 generalize tG I s=R at *;have m:=h;obtain⟨h3,tv,gv,fv,h4,cv,h5,fs,m⟩:=m;obtain⟨hc,-⟩:=ae m.look;obtain⟨hm,-⟩:=ae m.mod;obtain⟨s6,s7,rfl⟩:=aA m.funcs;have d:=Z h;clear h m;change Hid _ at ht;replace hR:=Z hR;change Hid _ at hM;go_enter func80,ntmps80;go_wp2;go_loopw [16] (λa wr=> ∃(k jj:Nat) (l:List vM) (c:List dQ),k<=s.eb.length/\a= V O k/\l.length=k/\jd I wr {s with i:=jj,eb:=l++s.eb.drop k,ao:=c}/\(l++s.eb.drop k).map (·.typ)=s.eb.map (·.typ)/\c.length<=18*jj/\Kp (oX I) w wr/\
   dq I.D (s.eb.map (·.typ)) s.gl (s.eb.map (·.typ)) s.ao s.i=LA l (dq I.D (s.eb.map (·.typ)) s.gl ((s.eb.map (·.typ)).drop k) c jj)) (λa _=>s.eb.length - (intOf a).toNat)
 case atStart=>exact⟨0,s.i,[],s.ao,Y,U,U,by simpa using d.out,Vc,e3,(Kp.refl no w).any,by rw[Pn];rfl⟩
 case round=>
  clear hc hm;obtain⟨k,jj,l,c,hk,rfl,L,N,h6,s8,T,o⟩:=hrel;have HS:=Z N;have HK:=Z T;have h7:=Z h6;have k5:=T.size;by_cases z:k<s.eb.length
  .have k6:(s.eb.map (·.typ)).drop k=(s.eb.getD k ⟨([],[]),0,0⟩).typ::(s.eb.map (·.typ)).drop (k+1):=by
    rw[VY (by simpa using z)];simp[Vj z]
   rw[k6,LB,Po]at o;have m:=N;obtain⟨h3,tv,gv,fv,h4,cv,h5,fs,m⟩:=m;obtain⟨hc,-⟩:=ae m.look;have C:=BZ m.rd;have hU:=M4 m.rd;have X:=λn j=>acE (D:=I.D) (i:=jj) (n:=n) (j:=j)
   simp only at C hU;generalize UM I.D jj=g at *;clear N T h6 m k6;change Hid _ at o;replace hU:=Z hU;replace C:=Z C;match g,o,hU,X with
   | Ym e,o,hU,_=>
    go_wp2_with fail;refine C.cJ ?_;go_wp2_with fail;refine hU.mono ?_;rintro r wr⟨⟨fv,j,rfl,⟨fb,rfl,h0,E⟩,k7⟩,k1⟩;have h8:=Vk k5 h0;have F:=Z (HK.trans (HS.iF k1));clear k7 k1;change Hid _ at E;go_wp2;go_ret;rw[hM.out];show eG _ _ _ _ _/\_
    rw[o.out];exact⟨⟨aj fb,U,fb,U,h8,E⟩,F⟩
   | Yn (p,B),o,hU,X=>
    obtain⟨s9,x0,x1⟩:=X p B U;clear X;go_wp2_with fail;refine C.cJ ?_;go_wp2_with fail;refine hU.mono ?_;rintro r wr⟨⟨v,rfl,rfl,k7⟩,k1⟩;have h1:=HS.read k1 k7;have F:=Z (HK.trans (HS.iF k1));have e4:=Vk k5 k1.size;have h9:=hR.kp F;have h2:=oY k7;have m:=h1;obtain⟨h3,tv,gv,fv,h4,cv,h5,fs,m⟩:=m;obtain⟨e5,-⟩:=ae m.look;clear k7 k1 m hc;replace h9:=Z h9;replace h2:=Z h2;replace h1:=Z h1;by_cases k8:I.D.length-B<p
    .have e6:((I.D.length:Int)-B)<p:=Y
     have t:=o.out;simp only[Vi k8]at t;clear o;change Hid _ at t;go_wp2_with fail;refine h2.bw ?_;rintro w2 k2;go_wp2_with fail;refine(gS _ _).cJ ?_;go_wp2;go_ret;rw[hM.out];show eG _ _ _ _ _/\_
     rw[t.out];have:=k2.size;exact⟨⟨aj w2.heap.size,U,w2.heap.size,U,Y,ai _ _⟩,(F.trans k2.any).alloc _⟩
    .have e6: ¬((I.D.length:Int)-B)<p:=Y
     have t:=o.out;simp only[Va k8]at t;have e7:=Z t;clear t o;go_wp2_with fail;refine h2.bw ?_;rintro w2 k2;have e8:=h1.quiet k2;have k0:=h9.kp (ro:=I.lo) (k2.any);have e9:=Z (F.trans k2.any);have s0:=Vk e4 k2.size;clear k2 e5;obtain⟨h3,tv,gv,fv,h4,cv,h5,fs,m⟩:=e8;have G:(l++s.eb.drop k).length=s.eb.length:=by simp[L];omega
     obtain⟨a,s1,k9,-,-⟩:=m.funcs.form (show 0<(l++s.eb.drop k).length by omega);obtain⟨x2,x3,w0,w1⟩:=(aw.own m.funcs).aJ;simp only at k9 w0 w1;subst k9;cases w0;rw[G]at w1;have w3:=λW (u:Kp no w2 W)=>N7 (m.quiet u).rd p (by show B+p<=I.D.length;omega) Y
     have w4:=m.look;have k3:=m.mod;have n1:I.kb≠I.rb:=λe=>by have:=m.r3;rw[e,m.r1]at this;cases this
     have n2:I.mb≠I.rb:=λe=>by have:=m.r2;rw[e,m.r1]at this;cases this
     rw[G]at k3;obtain⟨S,J⟩:=bL (λb=>(∀q,b.cell? ⟨I.kb,q,H⟩=#[aj I.rb,tv,gv,aj I.mb][q]?)/\b.cell? ⟨I.mb,0,H⟩=M (Q (M ⟨a,0,H⟩) s.eb.length s1):Yw->Prop);have k4:∀W,Kp (one I.rb) w2 W->S W:=λW u=>by
      rw[J];exact⟨(ae (u.az w4 n1)).1,(ae (u.az k3 n2)).1 0⟩
     have s2:=Z J;have x4:IntKind.i64.wrap p=p:=by rw[IntKind.wrap_i64];omega
     clear w4 k3 J;change Hid _ at G;replace k0:=Z k0;change Hid _ at k4 m w3;go_wp2_with fail;refine rj 17 19 (S) ?hS λhS=>?_
     case hS=>exact k4 _ fL
     have J:=s2.out;subst J;refine tj 0 ?_;iterate 6 refine tn ?_
     refine tj 8 ?_;iterate 8 refine tn ?_
     refine oj 7 λK u=>?_
     refine sc (w3 _ fL) ?_;rintro e x7⟨⟨pb,x5,rfl,s3,W,w5,w6⟩,s5⟩;have A:=Kp.trans ((Kp.refl _ w2).drew) s5;refine⟨_,U,u _ _ (k4 _ A) (λhS=>?_)⟩;clear u K;simp only[pS];have w7:=k0.kp (A.mono (λb _ (e:b=I.rb) (h:I.lo b)=>by have:=m.low b h;rw[e,m.r1]at this;cases this));have w8:∀x∈l++s.eb.drop k,x.typ.1.length<=8/\x.typ.2.length<=1:=λx q=>by
      have:x.typ∈(l++s.eb.drop k).map (·.typ):=List.mem_map_of_mem q;rw[h7.out]at this;obtain⟨y,x,e⟩:=Xc.1 this;rw[<-e];exact ht y x
     have y:((l++s.eb.drop k).getD k ⟨([],[]),0,0⟩).typ=(s.eb.getD k ⟨([],[]),0,0⟩).typ:=by
      rw[Vl,VQ Y,List.getElem?_drop,L,Wr,VU,Vl]
     have q:=CO m A w6 s3 W w5 (by show k<(l++s.eb.drop k).length;rw[G.out];exact z) w7 (by show(l++s.eb.drop k).length<=16;rw[G.out];exact nf) ng w8 (by show c.length<=18*B;omega);simp only at q;rw[h7.out,y]at q;have w9:(I.D.take (B+p)).length=B+p:=by rw[VV];omega
     rw[w9]at q;have t:=e7.out;have e0:=Z (e9.trans (A.mono (λb _ (e:b=I.rb) h=>by have:=m.low b h;rw[e,m.r1]at this;cases this)));have s4:=Vk s0 A.size;have b:=λf c'=>Pp (P:=I.D.take (B+p)) (ts:=s.eb.map (·.typ)) (gl:=s.gl) (typ:=(s.eb.getD k ⟨([],[]),0,0⟩).typ) (ao:=c) (i:=B) (f:=f) (c:=c')
     generalize vV _ _ s.gl (s.eb.getD k _).typ c B=Q2 at *;clear w7 w8 y W w5 w6 s5 A w9;change Hid _ at t;replace q:=Z q;match Q2,t,q,b with
     | Ym e,t,q,_=>
      refine ej 17 λK u=>?_
      refine sc q ?_;rintro e x6⟨⟨fv,rfl,fb,rfl,h0,E⟩,e2⟩;refine⟨_,U,u _ _ ?_⟩;clear u K;simp only[pS];refine ej 18 λK u=>?_
      go_simp;refine u _ _ ?_;clear u K;refine dj ?_;have h8:w.heap.size<=fb:=Vk s4 h0;have x:=Z (e0.trans e2);clear e2 hS h0;change Hid _ at E;go_wp2;go_ret;rw[hM.out];show eG _ _ _ _ _/\_
      rw[t.out];exact⟨⟨aj fb,U,fb,U,h8,E⟩,x⟩
     | Yn (f,c'),t,q,b=>
      have E:=Z (b f c' U);clear b;refine ej 17 λK u=>?_
      refine sc q ?_;rintro e x6⟨⟨rfl,h0,h8⟩,e2⟩;refine⟨_,U,u _ _ ?_⟩;clear u K;simp only[pS];refine ej 18 λK u=>?_
      go_simp;refine u _ _ ?_;clear u K;refine dj ?_;have x:=Z (e0.trans e2);clear e2 hS;replace h0:=Z h0;go_wp2;go_roundw;case rel=>
       have e1:(l++s.eb.drop k).set k f=(l++[f])++s.eb.drop (k+1):=by
        rw[WV _ _ Y,L,Wr,VY z,X4,VD];rfl
       have u:=h0.out;rw[e1]at u;refine⟨k+1,B+p,l++[f],c',Y,by go_num,by simp[L],u,?_,Y,x,?_⟩
       .rw[<-e1,Xf,h7.out,E.out];have:(s.eb.getD k ⟨([],[]),0,0⟩).typ=(s.eb.map (·.typ))[k]'(by simpa using z):=by
         rw[Vl,Vj z];simp
        rw[this];exact XQ _
       .rw[t.out]
      case measure=>simp[intOf];omega
  .obtain rfl :k=s.eb.length:=Y
   rw[Xi Vc,dq,LA,VF]at o;clear N T h6;change Hid _ at o;go_wp2;go_ret;rw[hM.out];show eG _ _ _ _ _/\_
   rw[o.out];have a:=HS.out;rw[List.drop_length,VF]at a;exact⟨⟨U,a⟩,HK⟩
end
def mE(I:iO)(k:Nat)(s:l7):Except (Int×Int) l7:=
 match k with
 |0=>uS I s
 |1=>rR I s
 |2=>rS I s
 |3=>uT I s
 |4=>uQ I s
 |5=>tG I s
 |_=>if s.i<I.D.length then Ym (2,s.i)else Yn s
def Pq(I:iO):Nat->l7->Except (Int×Int) l7
 |0,s=> Yn s
 |n+1,s=>match mE I (6-n) s with
  | Ym e=> Ym e
  | Yn s'=>Pq I n s'
structure Jo(k:Nat)(s:l7):Prop where
 t0:k<=1->s.types=[]
 f0:k<=2->s.eb=[]
 g0:k<=3->s.gl=[]/\s.dW=[]
 c0:k<=5->s.ao=[]
 tn:s.types.length<=16
 tl:∀x∈s.types,x.1.length<=8/\x.2.length<=1
 fl:∀x∈s.eb,x.typ.1.length<=8/\x.typ.2.length<=1
 fn:k<=5->s.eb.length<=16
 gn:s.gl.length<=8
def ji{c:Type}{one:Nat->Rd c}{p:c->Prop}(d:∀i x j,one i= Yn (x,j)->p x):∀(n i:Nat) (l:List c) (j:Nat),cD one n i= Yn (l,j)->l.length=n/\ ∀x∈l,p x
 |0,i,l,j,h=>by cases h;simp
 |n+1,i,l,j,h=>by
  rw[cD]at h;split at h
  .cases h
  .rename_i f;split at h
   .cases h
   .rename_i e;cases h;obtain⟨a,b⟩:=ji d n _ _ _ e;grind
def ET(i:Nat)(x:Ty)(j:Nat)(h:nC l i= Yn (x,j)):x.1.length<=8/\x.2.length<=1:=by
 unfold nC at h;split at h
 .cases h
 .rename_i a;split at h
  .cases h
  .rename_i b;cases h;exact⟨pO a,pO b⟩
theorem Jo.step{I:iO}{s g:l7}(h:Jo k s)(o:k<=4)(c:mE I k s= Yn g):Jo (k+1) g:=by
 match k,h,o,c with
 |0,h,_,c=>
  simp only[mE,uS]at c;split at c
  .cases c
  .cases c;exact⟨λ_=>h.t0 Vb,λ_=>h.f0 Vb,λ_=>h.g0 Vb,λ_=>h.c0 Vb,h.tn,h.tl,h.fl,λ_=>h.fn Vb,h.gn⟩
 |1,h,_,c=>
  simp only[mE,rR]at c;split at c
  .cases c
  .rename_i n j d;split at c
   .cases c
   .rename_i l k f;cases c;have m:=(cz d).1;obtain⟨a,b⟩:=ji ET n _ _ _ f;have e:=h.t0 Vb;refine⟨λh=>Y,λ_=>h.f0 Vb,λ_=>h.g0 Vb,λ_=>h.c0 Vb,?_,?_,h.fl,λ_=>h.fn Vb,h.gn⟩<;>grind
 |2,h,_,c=>
  simp only[mE,rS]at c;split at c
  .cases c
  .rename_i n j d;split at c
   .cases c
   .rename_i l k f;cases c;have m:=(cz d).1;obtain⟨a,b⟩:=ji (p:=λx:Ty=>x.1.length<=8/\x.2.length<=1) (λi x j q=>by
     grind[yf,tl]) n _ _ _ f
    have e:=h.f0 Vb;refine⟨λh=>Y,λh=>Y,λ_=>h.g0 Vb,λ_=>h.c0 Vb,h.tn,h.tl,?_,λ_=>?_,h.gn⟩<;>grind
 |3,h,_,c=>
  simp only[mE,uT]at c;split at c
  .cases c
  .rename_i n j d;split at c
   .cases c
   .rename_i l k f;cases c;have m:=(cz d).1;obtain⟨a,b⟩:=ji (p:=λ_=>True) (λ_ _ _ _=>trivial) n _ _ _ f;have e:=h.g0 Vb;refine⟨λh=>Y,λh=>Y,λh=>Y,λ_=>h.c0 Vb,h.tn,h.tl,h.fl,λ_=>h.fn Vb,?_⟩;grind
 |4,h,_,c=>
  simp only[mE,uQ]at c;split at c
  .cases c
  .cases c;exact⟨λh=>Y,λh=>Y,λh=>Y,λ_=>h.c0 Vb,h.tn,h.tl,h.fl,λ_=>h.fn Vb,h.gn⟩
def Jp:l7:=⟨0,[],[],[],[],0,[]⟩
def Jo.zero:Jo 0 Jp:=⟨λ_=>rfl,λ_=>rfl,λ_=>⟨U,U⟩,λ_=>rfl,by simp[Jp],λx a=>by grind[Jp],λx a=>by grind[Jp],λ_=>by simp[Jp],by simp[Jp]⟩
def LC(D:List UInt8)(a:List Ty)(i:Nat):pA D a i=(match bp D 17 i with | Ym e=> Ym e| Yn (n,j)=>cD (yf D a) n j):=rfl
def Sr(I:iO)(F:I.D.length<=2000):iE I.D=(match Pq I 7 Jp with | Ym e=> Ym e| Yn s=> Yn ⟨s.eb,s.dW,s.bI,s.ao⟩):=by
 unfold iE;rw[Va Y];simp only[Pq,mE,uS,Jp];cases pB I.D 0 with
 |error e=>rfl
 |ok b=>
  obtain⟨u,c⟩:=b;simp only[rR,dF];cases bp I.D 17 c with
  |error e=>rfl
  |ok d=>
   obtain⟨f,g⟩:=d;simp only;cases cD (nC I.D) f g with
   |error e=>rfl
   |ok h=>
    obtain⟨i,j⟩:=h;simp only[rS,LC,V1];cases bp I.D 17 j with
    |error e=>rfl
    |ok k=>
     obtain⟨l,m⟩:=k;simp only;cases cD (yf I.D i) l m with
     |error e=>rfl
     |ok n=>
      obtain⟨a,o⟩:=n;simp only[uT,lR,V1];cases bp I.D 9 o with
      |error e=>rfl
      |ok p=>
       obtain⟨q,r⟩:=p;simp only;cases cD (jE I.D) q r with
       |error e=>rfl
       |ok v=>
        obtain⟨w,y⟩:=v;simp only[uQ];cases bp I.D 5 y with
        |error e=>rfl
        |ok z=>
         obtain⟨A,B⟩:=z;simp only[tG,Xg];have e:(a.map ((λx:vM=>x.typ)∘λt=>⟨t,0,0⟩))=a:=by
          rw[show((λx:vM=>x.typ)∘λt=>⟨t,0,0⟩)=id from U,List.map_id]
         rw[e];cases dq I.D a (w.map (·.1)) a [] B with
         |error e=>rfl
         |ok t=>
          obtain⟨⟨x,C⟩,D⟩:=t;simp only;by_cases E:D<I.D.length<;>grind
structure abv(fs:List Ty)(gl:List (UInt8×Bool))(M:Nat)(T:dA)(ao:List dQ):Prop where
 ed:∀q p,q<ao.length->T q=some p->EY fs gl T ao q p (ao.getD q bD)
 far:∀q,ao.length<=q->T q=H
 bd:∀q p,T q=some p->p.st.length<=M/\p.dp<=17/\p.lo.length<=32
def acL(T:dA)(f:vM):Prop:=f.aZ<=32/\ ∃more d,T f.entry=M ⟨f.typ.1++more,f.typ.2,[],d⟩/\f.aZ=f.typ.1.length+more.length
section
variable{D:List UInt8}{fs:List Ty}{gl:List (UInt8×Bool)}{M:Nat}{T:dA}
end
def dh(t:UInt8)(v:Int):Prop:=0<=v/\v<(if t=127 then 4294967296 else 18446744073709551616)
structure abw(f:dH)(gl:List (UInt8×Bool))(T:dA):Prop where
 all:abv (f.funcs.map (·.typ)) gl 36000 T f.ao
 eb:∀g∈f.funcs,acL T g/\g.typ.1.length<=8/\g.typ.2.length<=1
 nf:f.funcs.length<=16
 nc:f.ao.length<=36000
 ng:f.globals.length=gl.length/\gl.length<=8
 dW:∀k,k<gl.length->dh (gl.getD k (0,Yj)).1 ((f.globals.getD k 0:Nat):Int)
 pg:f.bI<=4
def PA(i:Nat)(x:(UInt8×Bool)×Nat)(j:Nat)(h:jE l i= Yn (x,j)):dh x.1.1 (x.2:Int):=by
 unfold jE at h;split at h
 .cases h
 .rename_i t b c;split at h
  .cases h
  .rename_i f k d;split at h
   .cases h
   .rename_i v m a;cases h;unfold kK at a;obtain⟨e,g⟩:=G9 a;unfold dh;grind
def iP:List Int->List UInt8->Prop
 |[],[]=>True
 |v::vs,t::ts=>dh t v/\iP vs ts
 |_,_=>False
theorem iP.len:∀{v:List Int} {t:List UInt8},iP v t->v.length=t.length
 |[],[],_=>rfl
 |_::_,_::_,h=>by rw[Wi,Wi,h.2.len]
 |[],_::_,h=>h.elim
 |_::_,[],h=>h.elim
theorem iP.app:∀{a:List Int} {x:List UInt8} {b:List Int} {y:List UInt8},iP a x->iP b y->iP (a++b) (x++y)
 |[],[],_,_,_,k=>k
 |_::_,_::_,_,_,h,k=>⟨h.1,h.2.app k⟩
 |[],_::_,_,_,h,_=>h.elim
 |_::_,[],_,_,h,_=>h.elim
def iP.split:∀{x:List UInt8} {v:List Int} {y:List UInt8},iP v (x++y)-> ∃a b,v=a++b/\iP a x/\iP b y
 |[],v,_,h=>⟨[],v,U,trivial,h⟩
 |_::_,[],_,h=>h.elim
 |t::x,n::v,_,h=>by
  obtain⟨a,b,rfl,c,d⟩:=iP.split (x:=x) h.2;exact⟨n::a,b,U,⟨h.1,c⟩,d⟩
theorem iP.one(h:iP L [g]):∃n,L=[n]/\dh g n:=by
 match L,h with
 |[n],h=>exact⟨n,U,h.1⟩
def iP.mk1(h:dh g y):iP [y] [g]:=⟨h,trivial⟩
theorem iP.get:∀{k:Nat} {v:List Int} {x:List UInt8},iP v x->k<x.length->dh (x.getD k 0) (v.getD k 0)
 |_,[],[],_,a=>by cases a
 |0,_::_,_::_,h,_=>h.1
 |k+1,_::v,_::x,h,a=>by
  have:=iP.get (k:=k) h.2 (by simpa using a);simpa using this
 |_,[],_::_,h,_=>h.elim
 |_,_::_,[],h,_=>h.elim
def iP.set:∀{k:Nat} {v:List Int} {x:List UInt8} {n:Int},iP v x->dh (x.getD k 0) n->iP (v.set k n) x
 |_,[],[],_,h,_=>Ve
 |0,_::_,_::_,_,h,a=>⟨Ve,h.2⟩
 |k+1,_::v,_::x,n,h,a=>⟨h.1,iP.set (k:=k) h.2 Ve⟩
 |_,[],_::_,_,h,_=>h.elim
 |_,_::_,[],_,h,_=>h.elim
def Uk(t:UInt8):dh t 0:=⟨Int.le_refl _,Y⟩
def iP.zeros:∀(x:List UInt8),iP (List.replicate x.length 0) x
 |[]=>trivial
 |t::x=>⟨Uk t,iP.zeros x⟩
def abF(T:dA)(fW:List UInt8):List (Nat×Nat×Nat)->List Int->Nat->List UInt8->Prop
 |[],below,_,res=>below=[]/\res=fW
 |c::cs,below,back,res=> ∃low bg aW p st,below=low++bg++aW/\low.length=c.1/\c.2.1=c.1+bg.length/\T back=M p/\p.st=st++res/\iP bg p.lo/\iP aW st/\abF T fW cs low c.2.2 p.res
structure FrG(T:dA)(fW lo res st:List UInt8)(s:Mc)(c:Nat×Nat×Nat)(cs:List (Nat×Nat×Nat))(low bg aW:List Int):Prop where
 aD:s.aD=cs.reverse++[c]
 stack:s.stack=low++bg++aW
 base:low.length=c.1
 tQ:c.2.1=c.1+bg.length
 Fl:iP bg lo
 PY:iP aW st
 SF:abF T fW cs low c.2.2 res
def Fr(T:dA)(fW lo res st:List UInt8)(s:Mc):Prop:= ∃c cs low bg aW,FrG T fW lo res st s c cs low bg aW
section
variable{T:dA}{fW lo res st:List UInt8}{s:Mc}{c:Nat×Nat×Nat}{cs:List (Nat×Nat×Nat)}{low bg aW:List Int}
def FrG.yX(h:FrG T fW lo res st s c cs low bg aW):cE s=c/\0<s.aD.length:=by
 unfold cE;rw[h.aD];simp
def Fr.same(h:Fr T fW lo res st s){s':Mc}(e1:s'.stack=s.stack)(e2:s'.aD=s.aD):Fr T fW lo res st s':=by
 obtain⟨c,cs,low,bg,aW,h⟩:=h;exact⟨c,cs,low,bg,aW,e2.trans h.aD,e1.trans h.stack,h.base,h.tQ,h.Fl,h.PY,h.SF⟩
theorem U7{s:Mc}(h:s.stack=L++[y]):aU s=y/\(aI s).stack=L/\s.stack.length=L.length+1:=by
 grind[aU,aI]
theorem Fr.fe(h:Fr T fW lo res (st++[g]) s):0<s.stack.length/\dh g (aU s)/\Fr T fW lo res st (aI s):=by
 obtain⟨c,cs,low,bg,aW,h⟩:=h;obtain⟨a,b,rfl,d,e⟩:=h.PY.split;obtain⟨n,rfl,i⟩:=e.one;have f:s.stack=(low++bg++a)++[n]:=by rw[h.stack];simp
 obtain⟨j,t2,t3⟩:=U7 f;exact⟨Y,Ve,c,cs,low,bg,a,h.aD,t2,h.base,h.tQ,h.Fl,d,h.SF⟩
theorem Fr.put{v:Int}(h:Fr T fW lo res st s)(a:dh g v):Fr T fW lo res (st++[g]) (dM s v):=by
 obtain⟨c,cs,low,bg,aW,h⟩:=h;exact⟨c,cs,low,bg,aW++[v],h.aD,by show s.stack++[v]=_;rw[h.stack];simp,h.base,h.tQ,h.Fl,h.PY.app (iP.mk1 a),h.SF⟩
def Fr.CP(h:Fr T fW lo res st s)(f:k<lo.length):0<s.aD.length/\(cE s).1+k<s.stack.length/\dh (lo.getD k 0) (s.stack.getD ((cE s).1+k) 0):=by
 obtain⟨c,cs,low,bg,aW,h⟩:=h;obtain⟨b,a⟩:=h.yX;have d:=h.Fl.len;refine⟨a,?_,?_⟩
 .rw[b,h.stack,Vn,Vn,h.base];omega
 .have e:s.stack.getD ((cE s).1+k) 0=bg.getD k 0:=by
   rw[b,h.stack,<-h.base,VD,Vl,VQ Y,V8,VC Y,<-Vl]
  grind[iP.get,FrG.Fl]
def Fr.EZ(h:Fr T fW lo res st s)(f:k<lo.length)(a:dh (lo.getD k 0) y):Fr T fW lo res st {s with stack:=s.stack.set ((cE s).1+k) y}:=by
 obtain⟨c,cs,low,bg,aW,h⟩:=h;obtain⟨b,d⟩:=h.yX;have e:=h.Fl.len;refine⟨c,cs,low,bg.set k y,aW,h.aD,?_,h.base,by grind[FrG.tQ],h.Fl.set a,h.PY,h.SF⟩;show s.stack.set _ _=_
 rw[b,h.stack,<-h.base,VD,WV _ _ Y,V8,XZ _ _ Y,<-VD]
end
theorem fC(a:0<=y)(b:y<4294967296):dh 127 y:=⟨a,Y⟩
theorem fV(a:0<=y)(b:y<18446744073709551616):dh 126 y:=⟨a,Ve⟩
def dh.M1(h:dh 127 y):0<=y/\y<4294967296:=by simp_all[dh]
def dh.wide(h:dh 126 y):0<=y/\y<18446744073709551616:=by simp_all[dh]
theorem dh.any(h:dh g y):0<=y/\y<18446744073709551616:=by
 grind[dh]
def vk(wd:Bool):UInt8:=if wd then 126 else 127
def jx(a:Bool)(n:Int):dh (vk a) (eE a n):=by
 cases a
 .show dh 127 (IntKind.u64.wrap (n*4294967296)/4294967296)
  grind[IntKind.wrap_u64,fC]
 .show dh 126 (IntKind.u64.wrap n)
  grind[IntKind.wrap_u64,fV]
def dh.wIn{a:Bool}(h:dh (vk a) y):0<=y/\y<(if a then 18446744073709551616 else 4294967296):=by
 cases a
 .exact dh.M1 h
 .exact dh.wide h
theorem Hz{a:Bool}(b:0<=y)(c:y<(if a then 18446744073709551616 else 4294967296)):dh (vk a) y:=by
 cases a
 .exact fC b c
 .exact fV b c
theorem C8{b:Bool}{a:Int}(h:dh (vk b) a)(c:0<=y)(d:y<=a):dh (vk b) y:=Hz c (Int.lt_of_le_of_lt d h.wIn.2)
def tY(b:Bool):dh 127 (truth b):=by
 cases b
 .exact fC Vb Vb
 .exact fC Vb Vb
theorem tZ(a:0<=y)(b:y<18446744073709551616):IntKind.u64.wrap y=y:=by grind[IntKind.wrap_u64]
def JE{a:Bool}(b:dh (vk a) y)(h:y≠0):bF a y≠0:=by
 have c:=b.wIn;cases a
 .show wrap64 (IntKind.u64.wrap (y*4294967296))/4294967296≠0
  grind[tZ,wrap64]
 .show wrap64 (IntKind.u64.wrap y)≠0
  grind[tZ,wrap64]
def C9{a:Bool}{b:Int}(c:dh (vk a) y)(d:dh (vk a) b):dh (vk a) (bits BinOp.and IntKind.u64 y b)/\dh (vk a) (bits BinOp.or IntKind.u64 y b)/\dh (vk a) (bits BinOp.xor IntKind.u64 y b):=by
 obtain⟨m,rfl⟩:∃m:Nat,y=(m:Int):=⟨y.toNat,cj c.1⟩;obtain⟨n,rfl⟩:∃n:Nat,b=(n:Int):=⟨b.toNat,cj d.1⟩;have h:=c.any;have i:=d.any;have e:bits .xor Yr (m:Int) (n:Int)=((m^^^n:Nat):Int):=by
  have e:m^^^n<2^64:=Xu Y Y;have f:(BitVec.ofInt 64 (m:Int)).toNat=m:=by
   grind
  have g:(BitVec.ofInt 64 (n:Int)).toNat=n:=by
   grind
  show IntKind.u64.wrap ((BitVec.ofInt 64 (m:Int)^^^BitVec.ofInt 64 (n:Int)).toNat:Int)=_
  grind[IntKind.wrap_u64]
 rw[bits_and_u64_nat m n Y Y,bits_or_u64_nat m n Y Y,e];cases a
 .have f:=c.M1;have g:=d.M1;have e1:m<2^32:=Y
  have e2:n<2^32:=Y
  have j:m&&&n<2^32:=X9 _ e2;have k:=WT e1 e2;have l:=Xu e1 e2;exact⟨fC Y Y,fC Y Y,fC Y Y⟩
 .have f:=c.wide;have g:=d.wide;have e1:m<2^64:=Y
  have e2:n<2^64:=Y
  have j:m&&&n<2^64:=X9 _ e2;have k:=WT e1 e2;have l:=Xu e1 e2;exact⟨fV Y Y,fV Y Y,fV Y Y⟩
def yu{wd:Bool}(f:k<15){b:Int}(e:dh (vk wd) y)(d:dh (vk wd) b):∃v t,bU wd k y b=M (v,t)/\dh (vk wd) v/\(t=0\/t=2\/t=3):=by
 have a: ¬b<0:=cj d.1;have c:=e.1;match k,f with
 |0,_=>exact⟨_,_,U,jx _ _,Yo U⟩
 |1,_=>exact⟨_,_,U,jx _ _,Yo U⟩
 |2,_=>exact⟨_,_,U,jx _ _,Yo U⟩
 |3,_=>
  unfold bU;simp only;by_cases h:b=0
  .grind
  .rw[Va h,Va (JE d h)];split
   .exact⟨_,_,U,Uk _,Yp (Yp U)⟩
   .exact⟨_,_,U,jx _ _,Yo U⟩
 |4,_=>
  unfold bU;simp only;by_cases h:b=0
  .grind
  .rw[Va h];refine⟨_,_,U,?_,Yo U⟩;have g:0<=y.tdiv b:=Int.tdiv_nonneg c Y;have i:y.tdiv b<=y:=Int.tdiv_le_self b c;grind[tZ,C8,dh.any]
 |5,_=>
  unfold bU;simp only;by_cases h:b=0
  .grind
  .rw[Va h,Va (JE d h)];exact⟨_,_,U,jx _ _,Yo U⟩
 |6,_=>
  unfold bU;simp only;by_cases h:b=0
  .grind
  .rw[Va h];refine⟨_,_,U,C8 d (Int.tmod_nonneg _ c) ?_,Yo U⟩;have:=Int.tmod_lt_of_pos y (b:=b) Y;omega
 |7,_=>exact⟨_,_,U,(C9 e d).1,Yo U⟩
 |8,_=>exact⟨_,_,U,(C9 e d).2.1,Yo U⟩
 |9,_=>exact⟨_,_,U,(C9 e d).2.2,Yo U⟩
 |10,_=>
  unfold bU;simp only;rw[Va a];exact⟨_,_,U,jx _ _,Yo U⟩
 |11,_=>
  unfold bU;simp only;rw[Va a];exact⟨_,_,U,jx _ _,Yo U⟩
 |12,_=>
  unfold bU;simp only;rw[Va a];refine⟨_,_,U,C8 e (Int.ediv_nonneg c ?_) (Int.ediv_le_self _ c),Yo U⟩;grind
 |13,_=>
  unfold bU;simp only;rw[Va a];exact⟨_,_,U,jx _ _,Yo U⟩
 |14,_=>
  unfold bU;simp only;rw[Va a];exact⟨_,_,U,jx _ _,Yo U⟩
def Fv{wd:Bool}(c:k<3){a:Int}(b:dh (vk wd) a):dh (vk wd) (IntKind.u64.wrap (dG wd k a)):=by
 have d:=b.any;match k,c with
 |0,_=>
  rw[sR];cases wd
  .have e:=Lib.bitLen_le a.toNat 32 Vb (cj b.M1);show dh 127 (IntKind.u64.wrap (64 - (Lib.bitLen a.toNat:Int) - (64-32)))
   grind[IntKind.wrap_u64,fC]
  .have e:=qs a d.2;show dh 126 (IntKind.u64.wrap (64 - (Lib.bitLen a.toNat:Int) - (64-64)))
   grind[IntKind.wrap_u64,fV]
 |1,_=>
  grind[sS,wN,tZ,Hz]
 |2,_=>
  grind[sT,Ee,tZ,Hz]
def aab(v:Int):dh 127 (Hj v):=jx Yj _
theorem P8(s:Mc)(p:Nat):fF s p 4<4294967296:=by
 have b:∀k,(mG s p k).toNat<256:=λk=>(mG s p k).toNat_lt
 have c:∀n k,n<2^(8*k)->k<4->n|||(mG s p k).toNat*2^(8*k)%18446744073709551616<2^(8*(k+1)):=by
  intro n k a d;refine WT (Vm a (V3 Vb Y)) ?_;refine Xe (Nat.mod_le _ _) ?_;rw[show 8*(k+1)=8+8*k by omega,V5];simp_all[Nat.pow_pos]
 have a:fF s p 0<2^(8*0):=by grind[fF]
 have d:fF s p 1<2^(8*1):=by grind[fF]
 have e:fF s p 2<2^(8*2):=by simp_all[fF]
 have f:fF s p 3<2^(8*3):=by simp_all[fF]
 rw[fF];simp_all
theorem P9(s:Mc)(p:Nat):fF s p 1<4294967296:=by
 have b:=(mG s p 0).toNat_lt;grind[fF]
structure oH(gl:List (UInt8×Bool))(s:Mc):Prop where
 gl:iP s.gl (gl.map (·.1))
 mem:s.mem.length%64=0/\s.mem.length<=256
 bG:s.bG.length<=8
def oH.same{gl:List (UInt8×Bool)}{s s':Mc}(h:oH gl s)(e1:s'.gl=s.gl)(e2:s'.mem=s.mem)(e3:s'.bG=s.bG):oH gl s':=⟨by grind[gl],by grind[mem],by grind[bG]⟩
def acU(gl:List (UInt8×Bool))(T:dA)(fW:List UInt8)(s:Mc):Prop:=(∃p,T s.pos=M p/\Fr T fW p.lo p.res p.st s)/\oH gl s/\s.aD.length<=16
def S8(gl:List (UInt8×Bool))(fW:List UInt8)(s:Mc):Prop:=s.aD=[]/\iP s.stack fW/\oH gl s
structure Next(gl:List (UInt8×Bool))(T:dA)(fW:List UInt8)(dp:Nat)(op:UInt8)(s s':Mc):Prop where
 good:acU gl T fW s'\/S8 gl fW s'
 up:s'.aD.length<=s.aD.length+1
 o5:op=5->s'.aD.length=s.aD.length/\ ∃p',T s'.pos=M p'/\p'.dp<dp
 o11:op=11->s'.aD.length+1=s.aD.length
def eI(gl:List (UInt8×Bool))(T:dA)(fW:List UInt8)(dp:Nat)(op:UInt8)(s:Mc)(m:Option (Nat×Mc)):Prop:=
 ∃t s',m=M (t,s')/\s'.aC=s.aC/\t≠5/\(t=0->Next gl T fW dp op s s')/\(t≠0->s'.stack.length<=s.stack.length/\s'.mem=s.mem/\s'.gl=s.gl/\s'.bG=s.bG)
section
variable{gl:List (UInt8×Bool)}{T:dA}{fW:List UInt8}{dp:Nat}{op:UInt8}{s s':Mc}{p:Pt}
def eI.trap{m:Option (Nat×Mc)}(b:m=M (t,s'))(a:t≠0)(c:t≠5)(d:s'.aC=s.aC)(e:s'.stack.length<=s.stack.length)(f:s'.mem=s.mem/\s'.gl=s.gl/\s'.bG=s.bG:=by exact⟨U,U,U⟩):eI gl T fW dp op s m:=⟨t,s',b,d,c,λh=>absurd h a,λ_=>⟨e,f⟩⟩
theorem eI.on{m:Option (Nat×Mc)}(b:m=M (0,s'))(n:s.aD.length<=16)(c:op≠5)(a:op≠11)(g:Goes T p s.pos l)(f:Fr T fW p.lo p.res l s')(hS:oH gl s')(i:s'.pos=s.pos)(j:s'.aC=s.aC)(o:s'.aD=s.aD):eI gl T fW dp op s m:=by
 obtain⟨d,k⟩:=g;exact⟨0,s',b,j,Vb,λ_=>⟨Yo ⟨⟨_,by rw[i];exact k,f⟩,hS,Ve⟩,Ve,λe=>absurd e c,λe=>absurd e a⟩,λh=>absurd U h⟩
end
def fx{x:dQ}(h:x.op.toNat≠44/\ ¬(103<=x.op.toNat/\x.op.toNat<=105)/\ ¬(121<=x.op.toNat/\x.op.toNat<=123)):bZ G C x=fE G C x:=by
 unfold bZ;rw[Va (λe=>h.1 (by rw[e];rfl)),Va h.2.1,Va h.2.2]
def Mf{x:dQ}(h:x.op.toNat<=16):bZ G C x=fB G C x:=by
 rw[fx ⟨Y,Y,Y⟩];simp_all[fE]
section
variable{f:dH}{gl:List (UInt8×Bool)}{T:dA}{fW:List UInt8}{s:Mc}{p:Pt}{x:dQ}{q:Nat}
variable(hF:abw f gl T)(fr:Fr T fW p.lo p.res p.st s)(hS:oH gl s)(hc:s.aD.length<=16)(hp:s.pos=q+1)
include hF fr hS hc hp
end
def rY(w:Yw):Prop:=eN w (λb=>b<w.heap.size)
end
section
open Go.ChangeShapes Go.WideShapes Go.ChangeAt Go.RowKit
def uf(r:mQ):DataW Unit:=.agg [.lit (.int .u8 r.fr.toNat),.lit (.int .u8 r.upto.toNat),.lit (.int .i64 r.bM),.lit (.string r.takes),.lit (.string r.gives)]
def MK:(Rows.laid_stoker_look_rows:DataW Unit)=.slice (gM.map uf) []:=Vg
def ab0:Tryz.prog.globalNamed "stoker/look.rows" =M 1:=Vf
def ML:(Tryz.prog.globals[1]?).map (·.type)=M 347:=Vf
def FI:Tryz.prog.cellsOf 329=5:=Vf
def Dp:Tryz.prog.cellsOf 5=1:=Vf
def qi:Tryz.prog.cellsOf 3=1:=Vf
def QK:Tryz.prog.cellsOf 9=1:=Vf
theorem BJ{a:Option Nat}(h:W.cell? ⟨k,o,a⟩=M v):a=none:=by
 cases a with
 |none=>rfl
 |some x=>
  grind[World.cell?]
def yG{z:ByteArray}(h:z.data.toList=l):z=⟨l.toArray⟩:=by
 cases z with
 |mk d=>subst h;simp
def si{P:Program} :∀{l:List (String×DataW Unit)} {c:List MemPlace},DataW.LaidVars P W l c-> ∀n d,(n,d)∈l->
  ∃g t a aC p,P.globalNamed n=M g/\(P.globals[g]?).map (·.type)=M t/\W.var? P n=M a/\DataW.trod (λ_=>()) P W 0 (λ_=>Yk) Yj aC t a.toList=M (d,p)
 |[],_,_,_,_,b=>by cases b
 |(i,j)::r,c,h,n,d,b=>by
  obtain⟨g,t,a,aC,p,q,k,l,m,o,f,_⟩:=h;rcases Wg.1 b with e|e
  .grind
  .exact si f n d e
theorem MM{r:mQ}{p:List MemPlace}(h:DataW.trod (λ_=>()) prog W 0 (λ_=>true) false k 329 F=some (uf r,p)):F=fz r:=by
 obtain⟨c,n,-,w,j,x,a⟩:=DataW.trod_struct underlying329 h;rw[FI]at j;match F,j with
 |[b,c1,c2,c3,c4],_=>
 have b:c.map (·.1)=[.lit (.int .u8 r.fr.toNat),.lit (.int .u8 r.upto.toNat),.lit (.int .i64 r.bM),.lit (.string r.takes),.lit (.string r.gives)]:=by
  have:=Vy Prod.fst w;grind[uf]
 obtain⟨d,e,f,g,i,rfl⟩:∃d e f g i,c=[d,e,f,g,i]:=by
  match c,b with
  |[d,e,f,g,i],_=>simp
 simp only[WA,Xb,Ws,WQ]at b;obtain⟨l,e1,e2,e3,e4⟩:=b;have m:=a 0 _ U;have o:=a 1 _ U;have q:=a 2 _ U;have s:=a 3 _ U;have t:=a 4 _ U;simp[Dp,qi,QK]at m o q s t;obtain⟨E,u,y,-⟩:=DataW.trod_int underlying5 m;obtain⟨G,v,z,-⟩:=DataW.trod_int underlying5 o;obtain⟨I,f2,g2,-⟩:=DataW.trod_int underlying3 q;obtain⟨A,f3,g3,-⟩:=DataW.trod_string underlying9 s;obtain⟨B,f4,g4,-⟩:=DataW.trod_string underlying9 t;subst y z g2 g3 g4;simp at l e1 e2 e3 e4 u v f2 f3 f4;subst u v f2 f3 f4;have C:A=⟨r.takes.toArray⟩:=yG e3;have D:B=⟨r.gives.toArray⟩:=yG e4;rw[l,e1,e2,C,D];rfl
def Dq{c:List (String×DataW Unit)}(I:(c.all λx=>x.2.handleName?.isNone)=Yk)(J:("stoker/look.rows",Rows.laid_stoker_look_rows)∈c)(h:laidMetH prog c W):rY W:=by
 rw[MakeChecks.laidMetH_plain _ _ _ I]at h;obtain⟨S,K,-⟩:=h;obtain⟨g,t,T,aC,p,C,L,w,D⟩:=si K _ _ J;obtain rfl :=Vr (ab0.symm.trans C);obtain rfl :=Vr (ML.symm.trans L);rw[MK]at D;rcases DataW.trod_slice underlying347 D with⟨-,E⟩|⟨a,x,f,d,rest,n,-,y,E,-,z,-,N,A,-,-⟩
 .cases E
 have i:d.map (·.1)=gM.map uf:=by
  grind
 have P:d.length=28:=by
  have:=Vy List.length i;simpa[gM]using this
 obtain rfl :x=28:=Y
 have l:∀k,k<28-> ∀j,j<5->W.cell? ((a.add (k*5)).add j)=(fz (gM.getD k nG))[j]? :=by
  intro k F j R;have b:=A k F;rw[FI,Vj Y]at b;obtain⟨e,G,m⟩:=V2.1 b;obtain⟨-,q,r⟩:=World.cells?_some G;have s:(d[k]'Y).1=uf (gM.getD k nG):=by
   have:=Vy (·[k]?) i;grind
  grind[MM]
 obtain⟨u,m,e⟩:=a;have B:e=none:=by
  have q:=l 0 Y 0 Y;rw[show(fz (gM.getD 0 nG))[0]?=M (V Ys 0)from U]at q;rw[show((⟨u,m,e⟩:Addr).add (0*5)).add 0=⟨u,m,e⟩from U]at q;grind[BJ]
 subst B;have r:W.cell? ⟨1,0,H⟩=M (Q (M ⟨u,m,H⟩) 28 f):=by
  rw[World.var?_cell C w 0,<-WU,y];rfl
 have s:∀{b o v},W.cell? ⟨b,o,H⟩=M v->b<W.heap.size:=λ{b o v} G=>by
  grind[World.cell?]
 refine⟨u,m,f,r,z,s r,?_,λk F j R=>?_⟩
 .have q:=l 0 Y 0 Y;rw[show(fz (gM.getD 0 nG))[0]?=M (V Ys 0)from U]at q;exact s (o:=m) q
 grind[Addr.add_lit]
def BK{P:Prop}(h:P:=by
 have b:(decide (IntKind.i64.min<=a)&&decide (a<=IntKind.i64.max))=true:=h;rw[show IntKind.i64.min= -9223372036854775808 from U,show IntKind.i64.max=9223372036854775807 from U]at b;grind):P:=h
def QL{a:Int}(h:(Lit.int O a).wf=Yk): -9223372036854775808<=a/\a<9223372036854775808:=by
 exact BK
def aat(h:(Lit.int Yr y).wf=Yk):0<=y/\y<18446744073709551616:=by
 have a:(decide (IntKind.u64.min<=y)&&decide (y<=IntKind.u64.max))=true:=h;rw[show IntKind.u64.min=0 from U,show IntKind.u64.max=18446744073709551615 from U]at a;grind
def TR{w':Yw}(k:Kp no W w')(P:MemPlace->Prop):W.keptBut w' P:=by
 refine⟨k.os,k.output,λi hi=>?_⟩;rw[k.block i hi id];grind
end
section
open Go.RowKit
def po:(Tryz.prog.info? 5).map (λi=>(i.zero,i.size,i.bytes))=M (M (V Ys 0),1,1):=Vf
def uC:(Tryz.prog.info? 38).map (λi=>(i.zero,i.size,i.bytes))=M (M (V Yr 0),1,8):=Vf
def IY:(Tryz.prog.info? 5).map (·.size)=M 1:=Vf
def D5:(Tryz.prog.info? 38).map (·.size)=M 1:=Vf
def Kp.nZ{w':Yw}(g:W.grownBy w' H):Kp no W w':=(Kp.refl no W).bS g (λ_ e=>by cases e)
def Kp.Cm{w':Yw}(h:Below W.heap.size W w'):Kp no W w':=⟨h.os,h.tape,h.output,h.size,λk a _=>h.block k a⟩
def NF(h:W.cell? ⟨a,o+j,H⟩=M v):W.cell? ((⟨a,o,H⟩:Addr).add j)=M v:=by
 grind[Addr.add]
def Gm{xs:List Yx}(h:xs.length=F.length):splice F 0 xs=xs:=by
 simp_all[splice]
def Kp.Cn{w':Yw}(h:Kp no W w'):Below W.heap.size W w':=⟨h.os,h.tape,h.output,h.size,λk a=>h.block k a id⟩
def Ab{P:Prop}(h:P:=by
 intro c a b;go_wp2;go_ret;refine⟨⟨U,hl,Yp ⟨w.heap.size,n,xs.toArray,U,cQ,?_,cQ,hmx,by have:=hl;simpa using this,by have:=hl;rw[Wu Vd]⟩⟩,Kp.Cm b⟩;have e:=a.out;rw[Gm (by have:=hl;have:=QZ;simp;omega)]at e;exact e):P:=h
def uD{P:Prop}(h:P:=by
 cases he;exact⟨_,U,λW k j x a=>k.aY (NF (hc j x a))⟩):P:=h
def ob{w:Yw}{n:Nat}{xs:List Yx}(h:aw w v 1 n xs)(q:∀u∈xs,u.oneCell'=Yk)(B:n<=1000000):
  Yy prog 53 #[v] w λr a=>(r= Yq (Q (M ⟨w.heap.size,0,H⟩) n n)/\a.ownsRow w.heap.size 5 1 (Q (M ⟨w.heap.size,0,H⟩) n n) n xs)/\Kp no w a:=by
 obtain⟨r,b,d,i,k⟩:=info_parts po;have hl:=h.1;obtain⟨s,t,u,y⟩:=h.aJ;subst u;have l:0<xs.length-> ∃a,s=M a/\ ∀W,Kp no w W-> ∀j x,xs[j]?=M x->W.cell? (a.add j)=M x:=by
  intro p;obtain⟨-,⟨he,e⟩|⟨a,o,c,he,-,hc⟩⟩:=h
  .omega
  .exact uD
 go_enter func53,ntmps53;go_wp2_with(refine wpList_make_full _ U _ _ 25 U w.heap.size 5 r (V Ys 0) 1 underlying25 b d i _ _ _ _ n U U U U ?c1 ?c2 cQ ?_);case c1=>rw[k];omega
 case c2=>unfold maxLen;omega
 intro C c j;have o:=Kp.nZ j;obtain⟨x,⟨he,-⟩|⟨g,D,m,he,E,z,-,hmx,QZ,A⟩⟩:=c
 .cases he
 cases he;go_wp2_with(refine wpList_copy_splice U _ _ _ _ U 5 underlying25 IY _ _ _ _ _ _ U U w.heap.size 0 m.toList 5 ?d1 xs ?d2 (λp=>⟨U,?d3⟩) ?d4 q w.heap.size w o.Cn cQ ?_);case d1=>rw[WX];exact z
 case d2=>have:=hl;simp;omega
 case d3=>obtain⟨a,e,f⟩:=l p;exact⟨a,e,f _ o⟩
 case d4=>have:=hl;have:=QZ;simp;omega
 exact Ab
def rM{w:Yw}{n:Nat}{xs:List Yx}(h:aw w v 1 n xs)(q:∀u∈xs,u.oneCell'=Yk)(B:n<=1000000):
  Yy prog 52 #[v] w λr a=>(r= Yq (Q (M ⟨w.heap.size,0,H⟩) n n)/\a.ownsRow w.heap.size 38 1 (Q (M ⟨w.heap.size,0,H⟩) n n) n xs)/\Kp no w a:=by
 obtain⟨r,b,d,i,k⟩:=info_parts uC;have hl:=h.1;obtain⟨s,t,u,y⟩:=h.aJ;subst u;have l:0<xs.length-> ∃a,s=M a/\ ∀W,Kp no w W-> ∀j x,xs[j]?=M x->W.cell? (a.add j)=M x:=by
  intro p;obtain⟨-,⟨he,e⟩|⟨a,o,c,he,-,hc⟩⟩:=h
  .omega
  .exact uD
 go_enter func52,ntmps52;go_wp2_with(refine wpList_make_full _ U _ _ 53 U w.heap.size 38 r (V Yr 0) 1 underlying53 b d i _ _ _ _ n U U U U ?c1 ?c2 cQ ?_);case c1=>rw[k];omega
 case c2=>unfold maxLen;omega
 intro C c j;have o:=Kp.nZ j;obtain⟨x,⟨he,-⟩|⟨g,D,m,he,E,z,-,hmx,QZ,A⟩⟩:=c
 .cases he
 cases he;go_wp2_with(refine wpList_copy_splice U _ _ _ _ U 38 underlying53 D5 _ _ _ _ _ _ U U w.heap.size 0 m.toList 38 ?d1 xs ?d2 (λp=>⟨U,?d3⟩) ?d4 q w.heap.size w o.Cn cQ ?_);case d1=>rw[WX];exact z
 case d2=>have:=hl;simp;omega
 case d3=>obtain⟨a,e,f⟩:=l p;exact⟨a,e,f _ o⟩
 case d4=>have:=hl;have:=QZ;simp;omega
 exact Ab
def bcs(l:List UInt8):List Value:=l.map λc=> V Ys c.toNat
def NB(w w':Yw)(v:Yx)(l:List UInt8):Prop:=w'.ownsRow w.heap.size 5 1 v l.length (bcs l)
def NB.at{w':Yw}(h:NB W w' v l):aq w' v l:=aw.own h
theorem NB.lt{w':Yw}(h:NB W w' v l):∀b,v.ownBlock=M b->b<w'.heap.size:=λb a=>(World.ownsRow.lt h b a).2
def uF:Nat->Nat->List UInt8
 |0,n=>[UInt8.ofNat n]
 |k+1,n=>if n<128 then [UInt8.ofNat n]else UInt8.ofNat (n%128+128)::uF k (n/128)
def uB(n:Nat):List UInt8:=uF 10 n
structure FnS where
 params:List UInt8
 results:List UInt8
 aZ:List UInt8
 ao:List UInt8
def TL:FnS:=⟨[],[],[],[]⟩
def Ue(f:FnS):List UInt8:=uB f.params.length++f.params++uB f.results.length++f.results
def Ju(w:Yw)(v:Yx)(fs:List FnS):Prop:=
 ∃vs,aw w v 4 fs.length vs/\ ∀k,k<fs.length-> ∃x0 x1 x2 x3,vs[k*4]?=M x0/\vs[k*4+1]?=M x1/\vs[k*4+2]?=M x2/\vs[k*4+3]?=M x3/\
  aq w x0 (fs.getD k TL).params/\aq w x1 (fs.getD k TL).results/\aq w x2 (fs.getD k TL).aZ/\aq w x3 (fs.getD k TL).ao
def PM(k:Nat):Nat:=match k with
 |0=>75
 |1=>76
 |2=>77
 |3=>78
 |4=>79
 |5=>80
 |_=>81
section
variable{I:iO}{w:World}{s:l7}
def LP(h:jd I w s)(hi:Jo k s)(b:eN w I.lo)(c:k<7):Yy prog (PM k) #[aj I.kb] w λr a=>eG I w a (mE I k s) r/\Kp (oX I) w a:=by
 match k,hi,c with
 |0,hi,_=>exact zk h
 |1,hi,_=>exact zi h (by grind[Jo.t0])
 |2,hi,_=>exact zl h (Vk hi.tn Vb) (by grind[Jo.f0])
 |3,hi,_=>exact wO h (by grind[Jo.g0]) (by rw[(hi.g0 Vb).2];simp)
 |4,hi,_=>exact zh h
 |5,hi,_=>exact yh h b (hi.fn Vb) hi.gn hi.fl (by grind[Jo.c0])
 |6,hi,_=>exact vU h
def jd.abA(h:jd I w s)(q:I.B<=I.mb):∃o gv p,w.heap[I.mb]?=M (Yl #[o,gv,V O s.bI,p] 121)/\LD w (λb=>I.B<=b/\b<w.heap.size) I.mb 121 ⟨s.eb,s.dW,s.bI,s.ao⟩ o gv p/\(∃f n c,o= Q f n c)/\(∃f n c,gv= Q f n c)/\(∃f n c,p= Q f n c):=by
 obtain⟨z,B,gv,o,r,p,A,C,h⟩:=h;have t:∀{v:Yx} {n:Nat} {a:List Yx} {e:TypeId} {d:Nat},w.ownsRow I.B e d v n a->nS (λb=>I.B<=b/\b<w.heap.size) v:=λa b e=>⟨aK a b e,bR a e⟩
 refine⟨o,r,p,h.mod,⟨h.mod,⟨q,au h.mod⟩,?_,?_,t h.dW,?_⟩,?_,?_,?_⟩
 .obtain⟨f,c,g,i⟩:=(aw.own h.funcs).aJ;refine⟨f,c,g,i,λk n=>?_⟩;have l:=n;obtain⟨a,u,x,j,-,D,v,d,E,c1,c2,c3,-⟩:=h.fn l;rw[g]at j;cases j;have m:=t h.funcs a (by rw[g];rfl);have y:x.1=s.eb.getD k du:=v;refine⟨a,0,x.2.1,x.2.2,U,m,Ve,Ve,Ve,Ve,?_,?_,?_,?_⟩
  .grind[cy.Dv]
  .exact λb e=>⟨(h.Jn x d).1 b e,((h.AH x d).1 b e).2⟩
  .rw[<-y];exact(h.Dv x d).2
  .exact λb e=>⟨(h.Jn x d).2 b e,((h.AH x d).2 b e).2⟩
 .have :=aw.own h.dW;grind[jP,ay,Function.comp_def]
 .obtain⟨f,c,d,i⟩:=(aw.own h.ao).aJ;refine⟨f,c,d,i,λk n=>?_⟩;have l:k<s.ao.length:=n;obtain⟨a,u,b,-,-⟩:=h.ao.form Y;have m:=t h.ao a (by rw[b];rfl);have e:∀j,j<5->w.cell? ⟨a,k*5+j,H⟩=(dQ.cells (s.ao.getD k bD))[j]? :=by
   intro j g;have:=h.ao;rw[b]at this;rw[this.cellAt _ Y,kI dQ.len s.ao k j g,Vl,Vj l];rfl
  rw[d]at b;cases b;exact⟨a,0,U,m,by rw[Vv];exact e 0 Vb,by rw[Vv];exact e 1 Vb,by rw[Vv];exact e 2 Vb,by rw[Vv];exact e 3 Vb,by rw[Vv];exact e 4 Vb⟩
 .obtain⟨a,b,c⟩:=aA h.funcs;grind
 .obtain⟨a,b,c⟩:=aA h.dW;grind
 .obtain⟨a,b,c⟩:=aA h.ao;grind
end
def abB(w w':Yw)(m:Except (Int×Int) dH)(r:Ending):Prop:=
 match m with
 | Yn f=> ∃mb fv gv cv,r= Yq (Yu #[aj mb,Yv H])/\LD w' (λb=>w.heap.size<=b/\b<w'.heap.size) mb 121 f fv gv cv/\(∃ad n cap,fv= Q ad n cap)/\(∃ad n cap,gv= Q ad n cap)/\(∃ad n cap,cv= Q ad n cap)
 | Ym e=> ∃fv,r= Yq (Yu #[Yv H,fv])/\gJ w w' fv e
def AV{P:Prop}(h:P:=by
 go_enter func54,ntmps54;go_wp2;go_ret2;exact⟨⟨aj w.heap.size,U,w.heap.size,U,cQ,ai _ _⟩,oO⟩):P:=h
def He{w:Yw}(d:aq w v l)(hd:∀b,v.ownBlock=M b->b<w.heap.size)(hR:eN w (λb=>b<w.heap.size))(hl:l.length<=1000000):
  Yy prog 54 #[v] w λr e=>abB w e (iE l) r/\Kp no w e:=by
 obtain⟨ad,h1,hv,h9⟩:=d.aJ;by_cases h2:2000<l.length
 .have q:iE l= Ym (1,0):=by unfold iE;rw[Vi h2]
  subst hv;rw[q];clear q d hR hd;exact AV
 .have t:=Q7 d Y hd;have HB:=Z d;subst hv;clear d;change Hid _ at hd;replace hR:=Z hR;replace t:=Z t;go_enter func54,ntmps54;go_wp2_with fail;refine t.bw ?_;rintro c⟨u,k1⟩;have k0:=au u.az;change Hid _ at u k1;go_wp2;obtain⟨mb,h4⟩:=bL c.heap.size;obtain⟨F,hF⟩:=bL (#[.func (.func 75) #[aj (c.heap.size+1)] #[],.func (.func 76) #[aj (c.heap.size+1)] #[],.func (.func 77) #[aj (c.heap.size+1)] #[],.func (.func 78) #[aj (c.heap.size+1)] #[],.func (.func 79) #[aj (c.heap.size+1)] #[],.func (.func 80) #[aj (c.heap.size+1)] #[],.func (.func 81) #[aj (c.heap.size+1)] #[]]:Array Yx);obtain⟨W,y⟩:=bL (((c.alloc (Yl #[Q H 0 0,Q H 0 0,V O 0,Q H 0 0] 121)).alloc (Yl #[aj w.heap.size,Q H 0 0,Q H 0 0,aj c.heap.size] 182)).alloc (Yl F 183));have e1:W.heap.size=c.heap.size+3:=by rw[y];simp
  have E:W.heap[c.heap.size+1]?=M (Yl #[aj w.heap.size,Q H 0 0,Q H 0 0,aj c.heap.size] 182):=by rw[y];exact ah (bC Vc _)
  have G:W.heap[c.heap.size]?=M (Yl #[Q H 0 0,Q H 0 0,V O 0,Q H 0 0] 121):=by rw[y];exact ah (ah (bC U _))
  obtain⟨I,J⟩:=bL (⟨w.heap.size,c.heap.size+3,λb=>b<w.heap.size\/b=c.heap.size+2,λb d=>by rcases d with h|h<;>omega,Y,w.heap.size,c.heap.size+1,c.heap.size,Q ad l.length h1,l⟩:iO);have kW:Kp no c W:=by rw[y];exact(((Kp.refl _ _).alloc _).alloc _).alloc _
  have hq:W.heap[c.heap.size+2]?=M (Yl F 183):=by rw[y];exact bC Vc _
  have g:jd I W Jp:=by
   rw[J];refine⟨λb=>if b=w.heap.size then 1 else if b=c.heap.size then 2 else if b=c.heap.size+1 then 3 else 0,Q H 0 0,Q H 0 0,Q H 0 0,Q H 0 0,Q H 0 0,[],[],?_⟩;refine⟨by show c.heap.size+3<=W.heap.size;omega,u.kp kW id (λ_ _ _ h=>h),?_,?_,World.ownsRow_nil _ _ _ _,World.ownsRow_nil _ _ _ _,World.ownsRow_nil _ _ _ _,World.ownsRow_nil _ _ _ _,World.ownsRow_nil _ _ _ _,U,U,λx a=>(by cases a),λx a=>(by cases a),?_,?_,?_,λb d=>(by cases d),λb d=>(by cases d),λb d=>(by cases d),λb d=>(by cases d),λb d=>(by cases d),λx a=>(by cases a),λx a=>(by cases a),?_,λb d=> Yo (hd b d),λx a=>(by cases a),λx a=>(by cases a)⟩
   .exact E
   .exact G
   .exact Vi U
   .show(if c.heap.size=w.heap.size then 1 else if c.heap.size=c.heap.size then 2 else if c.heap.size=c.heap.size+1 then 3 else 0)=2
    rw[Va Y,Vi U]
   .show(if c.heap.size+1=w.heap.size then 1 else if c.heap.size+1=c.heap.size then 2 else if c.heap.size+1=c.heap.size+1 then 3 else 0)=3
    rw[Va Y,Va Y,Vi U]
   .intro b d;show(if b=w.heap.size then 1 else if b=c.heap.size then 2 else if b=c.heap.size+1 then 3 else 0)=0
    rcases d with h|h
    .rw[Va Y,Va Y,Va Y]
    .rw[Va Y,Va Y,Va Y]
  have x:eN W I.lo:=by
   have a:=hR.kp ((k1.trans kW).any);refine a.le (λb d=>?_);rw[J];exact Yo d
  have z:I.B=w.heap.size/\I.mb=c.heap.size/\I.kb=c.heap.size+1/\I.D=l/\I.lo (c.heap.size+2):=by rw[J];exact⟨U,U,U,U,Yp U⟩
  have A:∀b,I.lo b\/w.heap.size<=b:=λb=>by
   rw[J];rcases VE b w.heap.size with h|h
   .exact Yo (Yo h)
   .exact Yp h
  have q:=Sr I (by rw[z.2.2.2.1];omega);rw[z.2.2.2.1]at q;obtain⟨hB,K,L,-,h5⟩:=z;have K2:=Z (k1.trans kW);have h6:=Z g;have N:=Z hF;clear g kW J h4 E G;change Hid _ at hq q A;replace x:=Z x;rw[<-hF,<-y];clear hF;clear y;go_loopw [37] (λa wr=> ∃(k:Nat) (s:l7),k<=7/\a= V O k/\jd I wr s/\(k<=5->Jo k s)/\Kp (oX I) W wr/\Pq I 7 Jp=Pq I (7-k) s) (λa _=>7 - (intOf a).toNat);case atStart=>exact⟨0,Jp,Y,U,h6,λ_=>Jo.zero,(Kp.refl no W).any,U⟩
  case round=>
   obtain⟨k,s,hk,rfl,g,n,j,f⟩:=hrel;have h7:=ae (j.az hq (λP=>P h5));obtain⟨B,-⟩:=h7;have HK:=Z j;have k2:=j.size;have hF:=N.out;have m:Kp no w wr:=K2.comp j bW (λb d P=>by
    rcases A.out b with h|h
    .exact P h
    .omega)
   have R:=Z m;by_cases h8:k<7
   .have S:=x.kp j;have T:Jo k s\/k=6:=by
     rcases VE k 6 with h|h
     .exact Yo (n Y)
     .exact Yp Y
    have i:Yy prog (PM k) #[aj I.kb] wr λr e=>eG I wr e (mE I k s) r/\Kp (oX I) wr e:=by
     rcases T with h|h
     .exact LP g h S h8
     .subst h;exact vU g
    have o:=λp=>λ(a:k<=4) (e:mE I k s= Yn p)=>(n Y).step a e
    have X:Pq I 7 Jp=(match mE I k s with | Ym e=> Ym e| Yn p=>Pq I (6-k) p):=by
     rw[f,show 7-k=(6-k)+1 by omega];show(match mE I _ s with | Ym e=> Ym e| Yn p=>Pq I _ p:Except _ l7)=_
     rw[show 6 - (6-k)=k by omega]
    clear f;have f:=X;clear X;rw[L]at i;generalize mE I k s=a at *;have k3:=B;subst hF;clear g j S n T B m;change Hid _ at f;replace i:=Z i;match a,f,i,o with
    | Ym e,f,i,_=>
     rcases(by omega :k=0\/k=1\/k=2\/k=3\/k=4\/k=5\/k=6)with rfl |rfl |rfl |rfl |rfl |rfl |rfl
     all_goals
      go_wp2_with fail;refine i.mono ?_;rintro r C⟨⟨fv,rfl,fb,rfl,k4,h0⟩,D⟩;have h3:w.heap.size<=fb:=Y
      have m:=R.comp D bW (λb d P=>by
       rcases A.out b with h|h
       .exact P h
       .omega)
      clear D;change Hid _ at h0 m;go_wp2;go_ret2;rw[q.out,f.out];exact⟨⟨aj fb,U,fb,U,h3,h0⟩,m⟩
    | Yn p,f,i,o=>
     have b:∀C,jd I C p->Kp _ wr C-> ∃(e:Nat) (P:l7),e<=7/\Value.int O _= V O e/\jd I C P/\(e<=5->Jo e P)/\Kp _ W C/\Pq I 7 Jp=Pq I (7-e) P:=
      λC h3 D=>⟨k+1,p,Y,U,h3,λh=>o p Y U,HK.trans D,by rw[f.out,show 7 - (k+1)=6-k by omega]⟩
     clear o;change Hid _ at b;rcases(by omega :k=0\/k=1\/k=2\/k=3\/k=4\/k=5\/k=6)with rfl |rfl |rfl |rfl |rfl |rfl |rfl
     all_goals
      go_wp2_with fail;refine i.mono ?_;rintro r C⟨⟨rfl,h3⟩,D⟩;change Hid _ at D;replace h3:=Z h3;go_wp2;go_roundw;case rel=>exact b _ h3 D
      case measure=>simp[intOf]
   .obtain rfl :k=7:=Y
    have b:Pq I 7 Jp= Yn s:=f;obtain⟨fv,gv,o,h,a,p,P,r⟩:=g.abA (by rw[hB,K];omega);obtain⟨C,D,e,-,-,-,-,-⟩:=g.kT;obtain⟨i,-⟩:=ae e;rw[L]at i;clear g n j f h B e m hF;change Hid _ at a b;subst N;go_wp2;go_ret2;rw[q.out,b.out];rw[hB,K]at a;exact⟨⟨c.heap.size,fv,gv,o,U,a,p,P,r⟩,R⟩
abbrev abC(w w':Yw):Nat->Prop:=λb=>w.heap.size<=b/\b<w'.heap.size
def E5(w w':Yw)(m:Except (Int×Int) dH)(r:Ending):Prop:=
 match m with
 | Yn f=> ∃mb,r= Yq (Yu #[aj mb,V O 0,V O 0])/\dy w' (abC w w') mb 123 f
 | Ym e=>r= Yq (Yu #[Yv H,V O e.1,V O e.2])
theorem nS.le(h:nS S v)(a:∀b,S b->P b):nS P v:=λb c=>a b (h b c)
theorem hZ.le{f:List vM}(h:hZ W S v f)(c:∀b,S b->P b):hZ W P v f:=by
 obtain⟨g,b,i,k,l⟩:=h;refine⟨g,b,i,k,λj m=>?_⟩;obtain⟨a,o,n,p,d,e,q,r,s,t,u,w,x,y⟩:=l j m;exact⟨a,o,n,p,d,c _ e,q,r,s,t,u,w.le c,x,y.le c⟩
theorem mT.le{c:List dQ}(h:mT W S v c)(f:∀b,S b->P b):mT W P v c:=by
 obtain⟨b,a,d,e,g⟩:=h;refine⟨b,a,d,e,λj i=>?_⟩;grind
def PN(c:aq W v l)(q:∀b,v.ownBlock=M b->b<W.heap.size)(s:eN W (λb=>b<W.heap.size))(t:l.length<=1000000):
  Yy prog 35 #[v] W λr d=>E5 W d (iE l) r/\Kp no W d:=by
 have g:=He c q s t;obtain⟨z,u,rfl,w⟩:=c.aJ;generalize iE l=a at *;match a,g with
 | Ym e,g=>
  go_enter func35,ntmps35;go_wp2_with fail;refine g.mono ?_;rintro r h⟨⟨x,rfl,k,rfl,m,f⟩,i⟩;obtain⟨j,-⟩:=ae f;go_wp2_with fail;refine rj 11 11 (λd=> ∀o,d.cell? ⟨k,o,H⟩=#[V O e.1,V O e.2][o]?) ?hS λhS=>?_
  case hS=>exact λo=>j o
  refine tj 0 ?_;iterate 10 refine tn ?_
  refine dj ?_;go_wp2;go_ret3;exact⟨U,i.drew⟩
 | Yn f,g=>
  go_enter func35,ntmps35;go_wp2_with fail;refine g.mono ?_;rintro r h⟨⟨A,x,gv,B,rfl,d,⟨k,m,c1,rfl⟩,⟨n,o,c2,rfl⟩,⟨a3,p,c3,rfl⟩⟩,i⟩;obtain⟨y,-⟩:=ae d.az;have e:=i.size;go_wp2;go_ret3;have j:Kp no h (h.alloc (Yl #[Q k m c1,Q n o c2,V O f.bI,Q a3 p c3] 123)):=oO;refine⟨⟨h.heap.size,U,Q k m c1,Q n o c2,Q a3 p c3,ai _ _,⟨e,Vc⟩,?_,?_,?_,?_⟩,i.alloc _⟩
  .exact(d.funcs.kp j.any).le (λb c=>⟨c.1,by have:=c.2;simp;omega⟩)
  .exact aw.kp d.dW j bW
  .exact d.Jr.le (λb c=>⟨c.1,by have:=c.2;simp;omega⟩)
  .exact(d.ao.kp j.any).le (λb c=>⟨c.1,by have:=c.2;simp;omega⟩)
def jw{e:TypeId}(h:W.ownsRow k e t v j F)(d:a<=k):W.ownsRow a e t v j F:=
 ⟨h.1,h.2.elim Or.inl (λ⟨g,b,c,f,i,r⟩=>Or.inr ⟨g,b,c,f,Vk d i,r⟩)⟩
def qK(h:dy W S k 123 G):
  fX 40 #[aj k] W (V O G.funcs.length):=by
 obtain⟨d,gv,e,a⟩:=h;obtain⟨f,b,rfl,c,-⟩:=a.funcs;obtain⟨g,-⟩:=ae a.az;go_enter func40,ntmps40;go_wp2;go_ret;exact⟨U,U⟩
end
section
open Go.RowKit Go.Shelf
open Go.Maps (Keyed Merged)
shelf_lay_g SlLaysX.n5 Slmp 5 at Tryz 70 as SY
noncomputable abbrev kR:Yx->Option (DataW Unit×List MemPlace):=plainElem prog 2
theorem Ht{D:DataW Unit}{k:Lit}{z:DataW Unit}(h:Maps.has D k=Yj):D.atKey k z=z:=by
 grind[Maps.has_eq,DataW.atKey,cases DataW]
theorem Hu{D:DataW Unit}(h:W.ownsMap prog 2 kR a t D):Lib.mergeD (.map []) D=D:=by
 have b:Merged D (.map []) D (λ_=>Yj):=by
  refine⟨λk=>by simp[Maps.has],λk z=>?_⟩;grind[Maps.has,Ht]
 exact(Maps.merged_eq gf.one b (λ_=>rfl) (h.canon gf) ((World.ownsMap_made W prog 2 kR).canonK gf) (h.canonK gf)).symm
def nP(w:Yw)(p:Option Nat)(m:List (Int×Int)):Prop:=(p=H/\m=[])\/ ∃b,p=M b/\fk w b m
structure dr(w:Yw)(tb:Nat)(p:Option Nat)(m:List (Int×Int)):Prop where
 az:w.heap[tb]?=M (Yl #[V .i32 0,V .u32 0,.map p] 110)
 map:nP w p m
 few:m.length<=1000
abbrev mI(tb mb:Nat)(mv gv:Yx):Obj:= Yl #[aj tb,aj mb,mv,gv] 112
structure eX(w:Yw)(ro:Nat->Prop)(ib tb mb:Nat)(mv gv:Yx)(f:dH)(mem:List UInt8)(gl:List Int):Prop where
 az:w.heap[ib]?=M (mI tb mb mv gv)
 mod:dy w ro mb 123 f
 tU:aw w mv 1 mem.length (aP mem)
 JC:aw w gv 1 gl.length (ay gl)
 mn:mem.length<=1000000
 gn:gl.length<=1000000
 Um:∀b,ro b->b<w.heap.size/\b≠ib/\b≠tb
 mvI:∀b,mv.ownBlock=M b->b≠ib/\b≠tb
 gvI:∀b,gv.ownBlock=M b->b≠ib/\b≠tb
theorem nP.kp{w':Yw}{p:Option Nat}{m:List (Int×Int)}(h:nP W p m)(k:Kp S W w')(a:∀b,p=M b-> ¬S b):nP w' p m:=by
 rcases h with⟨rfl,rfl⟩|⟨b,rfl,h⟩
 .exact Yo ⟨U,U⟩
 .exact Yp ⟨b,U,h.kp k (a b U)⟩
def nP.src{p:Option Nat}{m:List (Int×Int)}(h:nP W p m)(a:m.length<=1000):∃D:DataW Unit,SrcOf prog 2 kR W p D/\LF (Lib.mergeD (.map []) D) m/\Maps.size D<=1000:=by
 rcases h with⟨rfl,rfl⟩|⟨b,rfl,D,n,c,e,d⟩
 .refine⟨.nil,Yo ⟨U,U⟩,⟨U,λk=>⟨U,U⟩⟩,by simp[Maps.size]⟩
 .refine⟨D,Yp ⟨b,n,U,c⟩,?_,?_⟩
  .grind[Hu]
  .rw[d.1];exact a
def pX(l:List UInt8):∀u∈aP l,u.oneCell'=true:=bV l
structure C4(w w':Yw)(sb:Nat)(mem:List UInt8)(gl:List Int)(bG:List (Int×Int))(kb gm gg:Nat):Prop where
 az:w'.heap[sb]?=M (Yl #[Q (M ⟨gm,0,H⟩) mem.length mem.length,Q (M ⟨gg,0,H⟩) gl.length gl.length,.map (M kb)] 125)
 tU:w'.ownsRow w.heap.size 5 1 (Q (M ⟨gm,0,H⟩) mem.length mem.length) mem.length (aP mem)
 JC:w'.ownsRow w.heap.size 38 1 (Q (M ⟨gg,0,H⟩) gl.length gl.length) gl.length (ay gl)
 bG:fk w' kb bG
 o1:w.heap.size<=kb
 o2:kb<gm
 o3:gm<gg
 o4:gg<sb
def L9{w:Yw}{ib:Nat}{gv:Yx}{p:Option Nat}{c:List (Int×Int)}(h:eX w P ib a t v gv G l L)(hc:w.cell? ⟨a,2,H⟩=M (.map p))(A:nP w p c)(hf:c.length<=1000):
  Yy prog 50 #[aj ib] w λr b=>(∃d e f g,r= Yq (aj d)/\C4 w b d l L c e f g)/\Kp no w b:=by
 obtain⟨D,i,B,h4⟩:=A.src hf;have h5:= @run_makeMap prog;have C:w.grownBy (w.alloc (.map #[] 0)) none:=World.grownBy_alloc w _ H;have E:=i.kept C (by cases p<;>simp);have F:p≠M w.heap.size:=λe=>absurd (i.lt _ e) (Nat.lt_irrefl _)
 have c1:df 70 #[.map (M w.heap.size),.map p] (w.alloc (.map #[] 0)) (Yu #[]) (λb=>b.ownsMap prog 2 kR w.heap.size (0+Maps.size D) (Lib.mergeD (.map []) D)/\(w.alloc (.map #[] 0)).grownBy b (M w.heap.size)):=
  AnyX.maps_Copy_opt SY gf kR w.heap.size 0 p (.map []) D _ (World.ownsMap_made w prog 2 kR) E F (by unfold maxLen;omega)
 obtain⟨j,m,I,-⟩:=h.tU.aJ;obtain⟨n,o,J,-⟩:=h.JC.aJ;subst I J;have f:=h.az;obtain⟨hi,-⟩:=ae f;have h6:∀dT q,(w.alloc dT).cell? ⟨ib,q,H⟩=#[aj a,aj t,Q j l.length m,Q n L.length o][q]? :=λdT q=>(ae (ah f)).1 q
 have h7:∀dT,(w.alloc dT).cell? ⟨a,2,H⟩=M (.map p):=λdT=>((Kp.refl no w).alloc dT).aY hc
 go_enter func50,ntmps50;go_wp2_with fail;refine c1.bw ?_;rintro g⟨N,R⟩;have s:Kp no w g:=(((Kp.refl no w).alloc _).bS R (λk e=> Yp (by cases e;exact VP _)));have u:fk g w.heap.size c:=⟨_,_,N,Y,B⟩;have T:=u.lt;have W:=Z (s.az f id);obtain⟨S,d⟩:=bL (λb=> ∀q,b.cell? ⟨ib,q,H⟩=#[aj a,aj t,Q j l.length m,Q n L.length o][q]?:Yw->Prop);have e:∀b,Kp no g b->S b:=λb k=>by rw[d];exact(ae (k.az W id)).1
 go_wp2_with fail;refine rj 14 14 (S) ?hS λhS=>?_
 case hS=>exact e _ fL
 have d:=d;subst d;refine tj 0 ?_;iterate 3 refine tn ?_
 refine tj 5 ?_;iterate 3 refine tn ?_
 refine tj 10 ?_;refine oj 4 λK k=>?_
 have hB:=ob (w:=g.drew) (aw.kp h.tU (s.drew) bW) (pX l) h.mn;refine sc hB ?_;rintro r w2⟨⟨rfl,q⟩,k2⟩;have b:=((Kp.refl no g).drew).trans k2;refine⟨_,U,k _ _ (e _ b) (λhS=>?_)⟩;simp only[pS];refine oj 9 λK k=>?_
 have hV:=rM (w:=w2) (aw.kp h.JC (s.trans b) bW) (dX L) h.gn;refine sc hV ?_;rintro r z⟨⟨rfl,x⟩,y⟩;refine⟨_,U,k _ _ (e _ (b.trans y)) (λhS=>?_)⟩;simp only[pS];refine tj 11 ?_;refine oj 12 λK k=>?_
 go_simp;refine k _ _ (e _ ((b.trans y).alloc _)) (λhS=>?_);refine tj 13 ?_;refine dj ?_;have k:=bR q U;have K:=bR x U;have h3:=s.size;have X:=b.size;have h0:=Z (jw (y.own q bW) (h3));have h1:=Z (jw x (Vk h3 X));have h2:=Z (u.kp (b.trans y) id);have KF:=Z (s.trans (b.trans y));go_wp2;go_ret;refine⟨⟨z.heap.size,U,w.heap.size,g.heap.size,w2.heap.size,⟨ai _ _,?_,?_,?_,cQ,T,k,K⟩⟩,KF.alloc _⟩
 .exact((Kp.refl no z).alloc _).own h0 bW
 .exact((Kp.refl no z).alloc _).own h1 bW
 .exact h2.kp ((Kp.refl no z).alloc _) id
end
section
open Go.RowKit
abbrev mU(e t:Int)(v:Int)(u:Int):Value:=.agg #[V O e,V O t,V Yr v,V O u]
structure Behind(w':Yw)(B sb kb:Nat)(low:Nat->Prop)(mem:List UInt8)(gl:List Int)(bG:List (Int×Int))(mv gv:Yx):Prop where
 az:w'.heap[sb]?=M (Yl #[mv,gv,.map (M kb)] 125)
 tU:w'.ownsRow B 5 1 mv mem.length (aP mem)
 JC:w'.ownsRow B 38 1 gv gl.length (ay gl)
 bG:fk w' kb bG
def cg.first{W0 w:Yw}{ft:TypeId}{e:List (Int×Int)}{args:List Int}   
  (c:C4 W0 w t l L e j B d)(g:dy w S a ft G)(i:∀b,S b->b<W0.heap.size)(n:W0.heap.size<=w.heap.size)(p:r=w.heap.size)(q:o=w.heap.size+1)(k:Kp no w W)(s:w.heap.size+1<W.heap.size)
  (u:W.heap[o]?=M (Yl #[aj a,aj t,v,Q H 0 0,V O 0,V O m] 172))
  (h:W.ownsRow (w.heap.size+2) 38 1 v args.length (ay args)):
  cg ⟨W0.heap.size,λb=>b<W0.heap.size\/b=r,o,t,j,a,ft,G,S⟩ W ⟨args,[],0,m,l,L,e⟩:=by
 have e1:=c.o1;have e2:=c.o2;have e3:=c.o3;have e4:=c.o4;have e5:=au c.az;have x:=aK h;refine⟨λb=>if b=o then 1 else if b=t then 2 else if b=B then 5 else if b=d then 6 else if b=j then 7 else if v.ownBlock=M b then 3 else 0,v,Q H 0 0,Q (M ⟨B,0,H⟩) l.length l.length,Q (M ⟨d,0,H⟩) L.length L.length,?_⟩;refine⟨Vk n k.size,g.kp k.any,u,k.az c.az id,jw h Ve,⟨U,Yo ⟨U,U⟩⟩,k.own c.tU bW,k.own c.JC bW,c.bG.kp k id,?_,?_,?_,?_,?_,?_,?_,?_,?_,?_⟩
 .simp
 .grind
 .grind
 .intro b f;cases f
 .intro b f;cases f;grind
 .intro b f;cases f;grind
 .grind
 .grind
 .omega
 grind
def cg.bM{E:gX}{w':Yw}(h:cg E W C)(k:Kp E.lo W w'):∃a gv,Behind w' E.B E.sb E.kb (λ_=>False) C.mem C.gl C.bG a gv:=by
 obtain⟨d,f,g,a,gv,h⟩:=h;exact⟨a,gv,k.az h.st (λc=>by grind[cI.low,cI.r2]),k.own h.mem (λb e c=>by grind[cI.low,cI.r5]),
  k.own h.gl (λb e c=>by grind[cI.low,cI.r6]),h.bG.kp k (λc=>by grind[cI.low,cI.r7])⟩
def lD{c1 c2 c3:Yx}{ty:TypeId}(h:W.heap[k]?=M (Yl #[v,c1,c2,c3] ty))(a d1 d2 d3:Yx):
  ((((W.setCell ⟨k,0,H⟩ a).setCell ⟨k,1,H⟩ d1).setCell ⟨k,2,H⟩ d2).setCell ⟨k,3,H⟩ d3).heap[k]?=M (Yl #[a,d1,d2,d3] ty)/\Kp (one k) W ((((W.setCell ⟨k,0,H⟩ a).setCell ⟨k,1,H⟩ d1).setCell ⟨k,2,H⟩ d2).setCell ⟨k,3,H⟩ d3):=
 ⟨heap_setCell (heap_setCell (heap_setCell (heap_setCell h a) d1) d2) d3,((((Kp.refl _ W).bK 0 _).bK 1 _).bK 2 _).bK 3 _⟩
def mL{ib:Nat}{gv:Yx}(h:W.heap[ib]?=M (mI k a v gv)):
  fX 46 #[aj ib] W (Yt Yk):=by
 obtain⟨b,-⟩:=ae h;go_enter func46,ntmps46;go_wp2;go_ret;exact⟨U,U⟩
def kV(args:List Int)(ps:List UInt8)(k:Nat):Bool:= !(ps.getD k 0==127&&decide (4294967295<args.getD k 0))
def oV(args:List Int)(ps:List UInt8):Bool:=decide (args.length=ps.length)&&(List.range ps.length).all (kV args ps)
theorem jP.cell(h:jP W v L)(c:k<L.length):∃a o b,v= Q (M ⟨a,o,H⟩) L.length b/\L.length<=b/\W.cell? ⟨a,o+k,H⟩=M (V Yr (L.getD k 0)):=
 aw.get h (by grind[ay])
def Ql(o:jP W v L)(p:aq W u l)(q:l.length<=1000)(r:L.length<=a):
  fX 69 #[v,u] W (Yt (oV L l)):=by
 obtain⟨s,t,rfl,w⟩:=aw.aJ o;obtain⟨x,y,rfl,z⟩:=aw.aJ p;have hF:oV L l=(decide (L.length=l.length)&&(List.range l.length).all (kV L l)):=rfl;generalize oV L l=R at *;by_cases g:L.length=l.length
 .go_enter func69,ntmps69;go_wp2;go_loopw [14] (λb wr=> ∃(k:Nat),k<=l.length/\b= V O k/\wr=W/\ ∀j,j<k->kV L l j=Yk) (λb _=>l.length - (intOf b).toNat);case atStart=>exact⟨0,Y,U,U,λj b=>absurd b Y⟩
  case round=>
   obtain⟨k,E,rfl,rfl,c⟩:=hrel;by_cases h:k<l.length
   .obtain⟨F,G,c1,m,-,A⟩:=o.cell (k:=k) Y;obtain⟨I,J,c2,n,-,B⟩:=p.get h;cases m;cases n;have d:kV L l k= !(l.getD k 0==127&&decide (4294967295<L.getD k 0)):=rfl;generalize l.getD k 0=pk at *;generalize L.getD k 0=C at *;by_cases f:pk=127
    .subst f;by_cases i:4294967295<C
     .go_wp2;go_ret;rw[hF];have:(List.range l.length).all (kV L l)=false:=List.all_eq_false.2 ⟨k,by simpa using h,by rw[d];simp[i]⟩;simp[this]
     .go_wp2;go_roundw;case rel=>exact⟨k+1,Y,by go_num,trivial,λj b=>(XJ.1 b).elim (c j) (λe=>by subst e;rw[d];simp[i])⟩
      case measure=>simp[intOf];omega
    .have i:((pk.toNat:Int)==127)=false:=by
      simp;intro e;exact f (by apply Vp.1;simp;omega)
     have D:(pk==127)=false:=by simp[f]
     go_wp2;go_roundw;case rel=>exact⟨k+1,Y,by go_num,trivial,λj b=>(XJ.1 b).elim (c j) (λe=>by subst e;rw[d,D];rfl)⟩
     case measure=>simp[intOf];omega
   .obtain rfl :k=l.length:=Y
    go_wp2;go_ret;rw[hF];have:(List.range l.length).all (kV L l)=true:=Xl.2 (λj b=>c j (by simpa using b));simp[this,g]
 .go_enter func69,ntmps69;go_wp2;go_ret;rw[hF];simp[g]
def gA(f:dH)(n:Int)(args:List Int)(aC:Int):Int:=
 if n<0\/(f.funcs.length:Int)<=n then 4
 else if oV args (f.funcs.getD n.toNat du).typ.1=Yj then 5
 else if aC<0\/100000<aC then 6 else 0
def Br{P:Prop}(h:P:=by
 go_enter func49,ntmps49;go_wp2_with fail;refine hfn.cJ ?_;go_wp2_with fail;refine aae.cJ ?_;go_wp2;go_ret;exact⟨by rw[hF];rfl,U⟩):P:=h
def wo{n aC:Int}(h:dy W S t 123 G)(l:G.funcs.length<=1000)(e:jP W v L)(c:L.length<=j)(d:∀k,k<G.funcs.length->(G.funcs.getD k du).typ.1.length<=1000):
  fX 49 #[aj t,V O n,v,V O aC] W (V O (gA G n L aC)):=by
 have hfn:=qK h;obtain⟨E,gv,F,f⟩:=h;obtain⟨I,k,rfl,p,q⟩:=f.funcs;obtain⟨J,-⟩:=ae f.az;obtain⟨s,u,rfl,w⟩:=aw.aJ e;have hF:gA G n L aC=if n<0\/(G.funcs.length:Int)<=n then 4
  else if oV L (G.funcs.getD n.toNat du).typ.1=Yj then 5
  else if aC<0\/100000<aC then 6 else 0:=rfl
 generalize gA G n L aC=R at *;by_cases x:n<0
 .rw[Vi (Yo x)]at hF;go_enter func49,ntmps49;go_wp2;go_ret;exact⟨by rw[hF];rfl,U⟩
 by_cases y:(G.funcs.length:Int)<=n
 .rw[Vi (Yp y)]at hF;go_enter func49,ntmps49;go_wp2_with fail;refine hfn.cJ ?_;go_wp2;go_ret;exact⟨by rw[hF];rfl,U⟩
 rw[Va Y]at hF;obtain⟨m,rfl⟩:∃m:Nat,n=(m:Int):=⟨n.toNat,Y⟩;rw[show((m:Int)).toNat=m by omega]at hF;have g:m<G.funcs.length:=Y
 obtain⟨a,o,K,N,rfl,-,P,-,-,-,i,-,-,-⟩:=q m g;have aae:=Ql e i (d m g) c;obtain⟨z,A,rfl,B⟩:=aw.aJ i;generalize(G.funcs.getD m du).typ.1=C at *;generalize oV L C=b at *;cases b with
 |false=>
  rw[Vi U]at hF;go_enter func49,ntmps49;go_wp2_with fail;refine hfn.cJ ?_;go_wp2_with fail;refine aae.mono ?_;rintro r W⟨rfl,rfl⟩;go_wp2;go_ret;exact⟨by rw[hF];rfl,U⟩
 |true=>
  rw[Va Vc]at hF;by_cases r:aC<0
  .rw[Vi (Yo r)]at hF;exact Br
  by_cases D:100000<aC
  .rw[Vi (Yp D)]at hF;exact Br
  rw[Va Y]at hF;go_enter func49,ntmps49;go_wp2_with fail;refine hfn.cJ ?_;go_wp2_with fail;refine aae.cJ ?_;go_wp2;go_ret;exact⟨by rw[hF];rfl,U⟩
def Db(w:Yw):df 39 #[] w (aj w.heap.size) λa=>dr a w.heap.size H []/\Kp no w a:=by
 go_enter func39,ntmps39;go_wp2;go_ret;exact⟨U,⟨ai _ _,Yo ⟨U,U⟩,Vc⟩,oO⟩
def yy(n:Nat):aP (List.replicate n (0:UInt8))=List.replicate n (V Ys 0):=by simp[aP]
def Bs{P:Prop}(h:P:=by
 intro b a;have a:M _=M b:=a;simp only[Vu]at a;exact⟨Y,Vd⟩):P:=h
def Qm(h:dy W S a 123 G)(C:k<W.heap.size)(p:∀b,S b->b<W.heap.size/\b≠k)(D:G.bI<=1000)(E:G.globals.length<=1000):
  Yy prog 36 #[aj k,aj a] W λr c=>(∃ib d gv,r= Yq (aj ib)/\W.heap.size<=ib/\eX c S ib k a d gv G (List.replicate (G.bI*64) 0) (G.globals.map λ(n:Nat)=>((n:Nat):Int))/\(∀b,d.ownBlock=M b->W.heap.size<=b/\b<c.heap.size)/\(∀b,gv.ownBlock=M b->W.heap.size<=b/\b<c.heap.size))/\Kp no W c:=by
 obtain⟨F,q,s,t,u⟩:=info_parts po;have v:=h;obtain⟨T,gv,X,l⟩:=h;obtain⟨I,J,w,x⟩:=aw.aJ l.dW;subst w;have d:=l.az;obtain⟨K,-⟩:=ae d;have e:(G.globals.map λ(n:Nat)=>((n:Nat):Int)).length<=1000000:=Vd
 have L:=Z l.dW;clear l x;generalize(G.globals.map λ(n:Nat)=>((n:Nat):Int))=f at *;have N:IntKind.i64.wrap ((G.bI:Int)*64)=((G.bI*64:Nat):Int):=by rw[IntKind.wrap_i64];omega
 go_enter func36,ntmps36;go_wp2_with(at_make;refine wpList_make_full _ U _ _ 25 U W.heap.size 5 F (V Ys 0) 1 underlying25 q s t _ _ _ _ (G.bI*64) U U (by first |rfl |(push_cast;rfl)) (by first |rfl |(push_cast;rfl)) ?c1 ?c2 cQ ?_);case c1=>rw[u];omega
 case c2=>unfold maxLen;omega
 intro A g i;have m:=Kp.nZ i;have y:=(ae (m.az d id)).1;have P:=bR g U;have B:=rM (aw.kp L m bW) (dX f) e;clear i K;go_wp2_with fail;refine B.mono ?_;rintro r n⟨⟨rfl,j⟩,z⟩;have R:=bR j U;clear y B;go_wp2;go_ret;have o:Kp no n (n.alloc (Yl #[aj k,aj a,Q (M ⟨W.heap.size,0,H⟩) (G.bI*64) (G.bI*64),Q (M ⟨A.heap.size,0,H⟩) f.length f.length] 112)):=(Kp.refl no n).alloc _;refine⟨⟨n.heap.size,Q (M ⟨W.heap.size,0,H⟩) (G.bI*64) (G.bI*64),Q (M ⟨A.heap.size,0,H⟩) f.length f.length,U,Y,⟨ai _ _,?_,?_,?_,?_,e,?_,?_,?_⟩,?_,?_⟩,(m.trans z).trans o⟩
 .exact v.kp ((m.trans z).trans o).any
 .have :=aw.own (o.own (z.own g bW) bW);rw[V0,yy];rw[toList_madeCells_one]at this;exact this
 .exact aw.own (o.own j bW)
 .simp;omega
 .intro b c;have:=p b c;exact⟨Vd,Y,this.2⟩
 .intro b c;have c:M _=M b:=c;simp only[Vu]at c;omega
 .intro b c;have c:M _=M b:=c;simp only[Vu]at c;omega
 .exact Bs
 .exact Bs
end
section
open Go.RowKit Go.MuLone
abbrev yE(ib tb:Nat):Nat->Prop:=λb=>b=ib\/b=tb
def eX.neI{ib:Nat}{gv:Yx}{p:Option Nat}{b:List (Int×Int)}(h:eX W S ib k a v gv G l L)(d:dr W k p b):ib≠k:=by
 intro e;have c:=h.az;rw[e,d.az]at c;simp at c
theorem fk.ne{m:List (Int×Int)}{b:Array Yx}{t:TypeId}(h:fk W a m)(d:W.heap[k]?=M (Yl b t)):a≠k:=by
 obtain⟨D,n,⟨e,c,f,-⟩,-⟩:=h;grind
theorem nP.ne{p:Option Nat}{m:List (Int×Int)}{a:Array Yx}{t:TypeId}(h:nP W p m)(c:W.heap[k]?=M (Yl a t)):∀b,p=M b->b≠k:=by
 rcases h with⟨rfl,rfl⟩|⟨b,rfl,h⟩
 .simp
 grind[fk.ne]
theorem eX.kp{w':Yw}{ro:Nat->Prop}{ib:Nat}{gv:Yx}(h:eX W ro ib a t v gv G l L)(k:Kp S W w')(d: ¬S ib)(e:∀b,ro b-> ¬S b)(f:∀b,v.ownBlock=M b-> ¬S b)(g:∀b,gv.ownBlock=M b-> ¬S b):eX w' ro ib a t v gv G l L:=
 ⟨k.az h.az d,h.mod.kp (k.mono (λb _ c i=>e b i c)),aw.kp h.tU k f,aw.kp h.JC k g,h.mn,h.gn,λb c=>⟨Vm (h.Um b c).1 k.size,(h.Um b c).2⟩,h.mvI,h.gvI⟩
abbrev Ip:Obj:= Yl #[V O 0,V O 0,V Yr 0,V O 0] 51
structure vD(w w1:Yw)(ro:Nat->Prop)(ib tb mb:Nat)(mv gv av:Yx)(f:dH)(mem:List UInt8)(gl args:List Int)(p:Option Nat)(bG:List (Int×Int)):Prop where
 kp:Kp (one tb) w w1
 inst:eX w1 ro ib tb mb mv gv f mem gl
 iQ:w1.heap[tb]?=M (Yl #[V .i32 1,V .u32 0,.map p] 110)
 map:nP w1 p bG
 rep:w1.heap[w.heap.size]?=M Ip
 dW:jP w1 av args
theorem vD.of{ib:Nat}{mv gv:Yx}{args:List Int}{p:Option Nat}{e:List (Int×Int)}(h:eX W S ib a t mv gv G l L)(d:dr W a p e)(i:jP W v args)(f:∀b,v.ownBlock=M b->b≠ib/\b≠a):
  vD W ((W.alloc Ip).setCell ⟨a,0,H⟩ (V .i32 1)) S ib a t mv gv v G l L args p e:=by
 have g:=h.neI d;have k:Kp (one a) W ((W.alloc Ip).setCell ⟨a,0,H⟩ (V .i32 1)):=((Kp.refl _ W).alloc _).bK 0 _;refine⟨k,h.kp k g (λb c=>(h.Um b c).2.2) (λb c=>(h.mvI b c).2) (λb c=>(h.gvI b c).2),heap_setCell (ah d.az) _,d.map.kp k (d.map.ne d.az),aB (cj (au d.az)) _ (ai W _),aw.kp i k (λb c=>(f b c).2)⟩
def vD.back{w1 w3:Yw}{ib:Nat}{gv:Yx}{args:List Int}{p:Option Nat}{d:List (Int×Int)}(e:eX W S ib a t v gv G l L)(hS:dr W a p d)(h:vD W w1 S ib a t v gv u G l L args p d)(k:Kp (λb=>W.heap.size<=b) w1 w3):
  eX (w3.setCell ⟨a,0,H⟩ (V .i32 0)) S ib a t v gv G l L/\dr (w3.setCell ⟨a,0,H⟩ (V .i32 0)) a p d/\Kp (yE ib a) W (w3.setCell ⟨a,0,H⟩ (V .i32 0)):=by
 have j:=au hS.az;have f:=e.neI hS;have m:=h.kp.comp k (λb _ c=>c) (λb g c=>absurd c Y);have g:Kp (one a) W (w3.setCell ⟨a,0,H⟩ (V .i32 0)):=m.bK 0 _;have i:=k.az h.iQ Y;exact⟨e.kp g f (λb c=>(e.Um b c).2.2) (λb c=>(e.mvI b c).2) (λb c=>(e.gvI b c).2),⟨heap_setCell i _,hS.map.kp g (hS.map.ne hS.az),hS.few⟩,g.mono (λb _ c=> Yp c)⟩
def Dh{ib:Nat}{gv:Yx}{f:dH}{args:List Int}{p:Option Nat}{g:List (Int×Int)}{n aC:Int}(h:eX W S ib a t v gv f l L)(C:dr W a p g)
  (D:f.funcs.length<=1000)(N:jP W u args)(E:args.length<=j)(i:∀b,u.ownBlock=M b->b≠ib/\b≠a)(m:∀k,k<f.funcs.length->(f.funcs.getD k du).typ.1.length<=1000)(e:Nat)(R:gA f n args aC=((e+1:Nat):Int)):
  df 27 #[aj ib,V O n,u,V O aC] W (mU ((e+1:Nat):Int) 0 0 0) λc=>eX c S ib a t v gv f l L/\dr c a p g/\Kp (yE ib a) W c:=by
 obtain⟨T,X,F,h0⟩:=aw.aJ N;subst F;have k:=h.az;have s:=C.az;have G:∀dT q,(W.alloc dT).cell? ⟨ib,q,H⟩=#[aj a,aj t,v,gv][q]? :=λdT q=>(ae (ah k)).1 q
 have I:=λdT=>mL (ah (o:=dT) k)
 have q:∀dT,(W.alloc dT).cell? ⟨a,0,H⟩=M (V .i32 0):=λdT=>(ae (ah s)).1 0
 have w:∀dT,(W.alloc dT).frozen? ⟨a,0,H⟩=false:=λdT=>(ae (ah s)).2 0
 have x:=Z I;have P:=Z N;go_enter_defers func27,ntmps27;go_wp2_with fail;refine(x _).cJ ?_;go_wp2_with fail;refine(lock_free nR ⟨a,0,H⟩ _ (q _) (w _)).cJ ?_;have c:=vD.of h C P i;obtain⟨w1,y⟩:=bL ((W.alloc Ip).setCell ⟨a,0,H⟩ (V .i32 1));rw[<-y]at c⊢;have d:=wo (n:=n) (aC:=aC) c.inst.mod D c.dW E m;rw[R]at d;have h1:(((e+1:Nat):Int)==0)=false:=Vd
 have h2:(((e:Nat):Int)+1==0)=false:=Vd
 have h3:=(ae c.inst.az).1;obtain⟨h4,h5⟩:=ae c.rep;clear G q w x y P i m;replace d:=Z d;change Hid _ at c;go_wp2_with fail;refine d.cJ ?_;go_wp2_with fail;refine leaves_cons (f:=48) (args:=#[Yv (M ⟨a,0,H⟩)]) Vc (by simp[go_sem]) ?_;obtain⟨J,z⟩:=lD c.rep (V O ((e:Int)+1)) (V O 0) (V Yr 0) (V O 0);have A:W.heap.size≠a:=λe=>cj (au C.az)
 have B:=z.az c.iQ (λh=>A h.symm);generalize((((w1.setCell ⟨W.heap.size,0,H⟩ (V O ((e:Int)+1))).setCell ⟨W.heap.size,1,H⟩ (V O 0)).setCell ⟨W.heap.size,2,H⟩ (V Yr 0)).setCell ⟨W.heap.size,3,H⟩ (V O 0))=w3 at *;refine(unlock_deferred nR ⟨a,0,H⟩ .returning _ ((ae B).1 0) ((ae B).2 0)).mono ?_;rintro r u' w4⟨rfl,rfl,rfl⟩;have K:=(ae (aB (o:=0) A (V .i32 0) J)).1;refine⟨mU ((e:Int)+1) 0 0 0,by simp[results,results27,go_sem,K],U,?_⟩;exact c.back h C (z.mono (λb _ (hb:b=_)=>Y))
end
section
open Go.RowKit
def Rb{α:Type}(n:Nat)(m:Except (Int×Int) (α×Nat)):Prop:=match m with
 | Yn x=>x.2<=n
 | Ym e=>1<=e.1/\e.1<=3/\0<=e.2/\e.2<=n
def Eb(n:Nat)(e:Int×Int):Prop:=1<=e.1/\e.1<=3/\0<=e.2/\e.2<=n
theorem Ob(h:a<=k):Eb k (2,(a:Int)):=⟨Y,Y,Y,Y⟩
def eb3(h:a<=k):Eb k (3,(a:Int)):=⟨Y,Y,Y,Y⟩
theorem Rb.err{a:Type}{m:Except (Int×Int) (a×Nat)}(h:Rb k m){e:Int×Int}(b:m= Ym e):Eb k e:=by rw[b]at h;exact h
theorem Rb.ok{a:Type}{m:Except (Int×Int) (a×Nat)}(h:Rb k m){x:a}(b:m= Yn (x,j)):j<=k:=by rw[b]at h;exact h
theorem Eb.le{e:Int×Int}(h:Eb k e)(a:k<=m):Eb m e:=⟨h.1,h.2.1,h.2.2.1,cj h.2.2.2⟩
section
variable{D:List UInt8}{i:Nat}
def Cr(h:i<=D.length):Rb D.length (fc D i):=by
 unfold fc;split
 .rename_i a;exact a
 .exact Ob h
def UI(a:Nat)(b:a<=D.length):∀(r i:Nat),i<=D.length->(∀j,gK D (a:Int) r i= Yn j->j<=D.length)/\(∀e,gK D (a:Int) r i= Ym e->Eb D.length e):=by
 intro r;induction r with
 |zero=>intro i _;exact⟨λj h=>(by cases h),λe h=>(by cases h;grind[Ob])⟩
 |succ r ih=>
  intro i hi;rw[gK];by_cases c:i<D.length
  .grind
  simp_all[Va,Ob]
def nF(m:Nat)(h:i<=D.length):Rb D.length (dB D m i):=by
 have:=UI i h m i h;unfold dB;split
 .rename_i j a;exact this.1 _ a
 .rename_i e a;exact this.2 _ a
theorem Oc(h:i<=D.length):Rb D.length (UM D i):=by
 have b:=nF 5 h;unfold UM;split
 .rename_i e a;exact b.err a
 .rename_i g j a;split
  .exact Ob h
  .exact b.ok a
theorem cY(a:Int)(h:i<=D.length):Rb D.length (bp D a i):=by
 have b:=Oc h;unfold bp;split
 .grind
 .rename_i n j c;split
  .exact Ob h
  grind
theorem eF(a:List UInt8)(h:i<=D.length):Rb D.length (bP D a i):=by
 have b:=Cr h;unfold bP;split
 .grind
 .rename_i c j d;split
  .grind
  .exact Ob h
def uH(b:Nat)(h:i<=D.length):Rb D.length (eh D b i):=by
 unfold eh;split
 .grind[Oc]
 split
 .split
  .rename_i e a;unfold qY at a;split at a
   .rename_i d c;cases a;exact(nF 5 h).err c
   .rename_i g j c;split at a
    .cases a;exact Ob h
    .cases a
  .rename_i n j a;unfold qY at a;split at a
   .cases a
   .rename_i g f c;split at a
    .cases a
    .cases a;exact(nF 5 h).ok c
 split
 .split
  .rename_i e a;unfold qZ at a;split at a
   .rename_i d c;cases a;exact(nF 10 h).err c
   .rename_i g j c;split at a
    .cases a;exact Ob h
    .cases a
  .rename_i n j a;unfold qZ at a;split at a
   .cases a
   .rename_i g f c;split at a
    .cases a
    .cases a;exact(nF 10 h).ok c
 .exact h
theorem qz{d:Type}{n:Nat}{one:Nat->Rd d}(f:∀i,i<=n->Rb n (one i)):∀(k i:Nat),i<=n->Rb n (cD one k i):=by
 intro k;induction k with
 |zero=>intro i h;exact h
 |succ k ih=>
  intro i h;have c:=f i h;rw[cD];split
  .rename_i e a;exact c.err a
  .rename_i x j a;have e:=ih j (c.ok a);split
   .grind
   .rename_i l g b;exact e.ok b
def sV(a:Nat)(h:i<=D.length):Rb D.length (gN D a i):=by
 have b:=cY (D:=D) ((a+1:Nat):Int) h;unfold gN;split
 .rename_i e c;exact b.err c
 grind[qz,eF,Rb.ok]
theorem I5(h:i<=D.length):Rb D.length (nC D i):=by
 have c:=sV (D:=D) 8 h;unfold nC;split
 .rename_i e b;exact c.err b
 .rename_i p j b;have d:=sV (D:=D) 1 (c.ok b);split
  .rename_i e a;exact d.err a
  .rename_i r k a;exact d.ok a
def Od(h:i<=D.length):Rb D.length (dF D i):=by
 have a:=cY (D:=D) 17 h;unfold dF;split
 .rename_i e b;exact a.err b
 grind[qz,I5,Rb.ok]
def Oe(c:List Ty)(h:i<=D.length):Rb D.length (pA D c i):=by
 have d:=cY (D:=D) 17 h;unfold pA;split
 .rename_i e b;exact d.err b
 .rename_i n j b;refine qz (λi hi=>?_) n j (d.ok b);have f:=cY (D:=D) (c.length:Int) hi;split
  .rename_i e a;exact f.err a
  .rename_i k e a;exact f.ok a
theorem I6(h:i<=D.length):Rb D.length (jE D i):=by
 have d:=eF (D:=D) [127,126] h;unfold jE;split
 .rename_i e c;exact d.err c
 .rename_i t j c;have f:=eF (D:=D) [0,1] (d.ok c);split
  .rename_i e a;exact f.err a
  .rename_i l k a;have g:=uH (D:=D) (if t=127 then 2 else 3) (f.ok a);split
   .rename_i e b;exact g.err b
   .rename_i v m b;exact g.ok b
def Og(h:i<=D.length):Rb D.length (lR D i):=by
 have a:=cY (D:=D) 9 h;unfold lR;split
 .rename_i e b;exact a.err b
 grind[qz,I6,Rb.ok]
def Oh(h:i<=D.length):Rb D.length (pB D i):=by
 have f:=eF (D:=D) [83] h;unfold pB;split
 .rename_i e a;exact f.err a
 rename_i j a;have g:=eF (D:=D) [84] (f.ok a);split
 .rename_i e a;exact g.err a
 rename_i m b;have k:=eF (D:=D) [75] (g.ok b);split
 .rename_i e a;exact k.err a
 rename_i n c;have l:=eF (D:=D) [1] (k.ok c);split
 .rename_i e a;exact l.err a
 .rename_i e d;exact l.ok d
end
def Lb(n:Nat)(m:sU):Prop:=match m with
 | Yn s=>s.i<=n/\s.pos<=n
 | Ym e=>Eb n e
theorem Lb.ok{m:sU}(h:Lb k m)(e:m= Yn E):E.i<=k/\E.pos<=k:=by rw[e]at h;exact h
theorem Lb.err{m:sU}{e:Int×Int}(h:Lb k m)(a:m= Ym e):Eb k e:=by rw[a]at h;exact h
theorem vW(h:cO E g=M e):e.i=E.i/\e.pos=E.pos:=by rw[(im h).2.2];simp
def PB(h:cX E=M (g,e)):e.i=E.i/\e.pos=E.pos:=by rw[(lx h).2.2];simp
def Ha(k:Nat):∀{s a:Bd},fh l k s=M a->a.i=s.i/\a.pos=s.pos:=by
 induction k with
 |zero=>intro s a h;cases h;omega
 |succ k ih=>
  grind[fh,vW]
def Hb(h:dg E k=M e):e.i=E.i/\e.pos=E.pos:=by
 unfold dg at h;rw[VX]at h;obtain⟨a,b,rfl⟩:=h;show a.i=E.i/\a.pos=E.pos
 exact Ha _ b
def xk(s:Bd)(a:UInt8)(k:Nat):(bu s a k).i=s.i/\(bu s a k).pos=s.pos:=by unfold bu;split <;>exact⟨U,U⟩
def PD(l:List Nat):∀s:Bd,(cx l s).i=s.i/\(cx l s).pos=s.pos:=by
 induction l with
 |nil=>intro s;exact⟨U,U⟩
 |cons a l ih=>
  intro s;have b:=ih (bu s 12 a);have c:=xk s 12 a;exact⟨b.1.trans c.1,b.2.trans c.2⟩
section
variable{c:nt}{s:Bd}{n:Nat}(hi:s.i<=c.D.length)(hp:s.pos<=c.D.length)
include hi hp
omit hp in
theorem AO{e:Int×Int}(h:bf c s= Ym e):Eb c.D.length e:=by
 grind[bf,cY,Rb.err]
omit hp in
theorem yi(h:bf c s= Yn (k,E)):E.i<=c.D.length/\E.pos=s.pos:=by
 unfold bf at h;split at h
 .cases h
 .rename_i n j a;cases h;exact⟨(cY (D:=c.D) _ hi).ok a,U⟩
omit hi hp in
theorem LK(m:Nat):∀{s:Bd},s.i<=c.D.length->(∀e,dN c m s= Ym e->Eb c.D.length e)/\ ∀l a,dN c m s= Yn (l,a)->a.i<=c.D.length/\a.pos=s.pos:=by
 induction m with
 |zero=>intro s hi;exact⟨λe h=>(by cases h),λl a h=>(by cases h;omega)⟩
 |succ m ih=>
  intro s hi;refine⟨λe h=>?_,λl a h=>?_⟩
  .rw[dN]at h;split at h
   .grind[AO]
   .rename_i k b a;have d:=yi hi a;grind
  grind[dN,yi]
theorem Hc(r:UInt8):Lb c.D.length (gV c r s):=by
 have g:=eb3 hp;unfold gV;split
 .exact⟨hi,hp⟩
 split
 .unfold lQ;split
  .rename_i e f;exact(eF _ hi).err f
  rename_i t j f;have p:=(eF _ hi).ok f;split
  .exact g
  rename_i a d;split
  .exact g
  .have h:a.i=j/\a.pos=s.pos:=by
    split at d
    .exact vW d
    grind
   show a.i<=_/\a.pos<=_
   omega
 split
 .unfold iC;split
  .exact g
  .have h:=xk s 5 (s.af.length-1);show(bu s 5 (s.af.length-1)).i<=_/\(bu s 5 (s.af.length-1)).pos<=_
   omega
 split
 .unfold kQ;split
  .exact g
  .have q:∀a:Bd,a=(if s.top.bq=3 then dZ s (s.top.start-1)else s)->a.i=s.i/\a.pos=s.pos:=by
    intro a e;rw[e];split <;>exact⟨U,U⟩
   have v:=q _ U;obtain⟨-,-,-,a4,b,-⟩:=qu s.top.waits (if s.top.bq=3 then dZ s (s.top.start-1)else s);show(if s.top.bq=0 then bo _ _ else _:Bd).i<=_/\(if s.top.bq=0 then bo _ _ else _:Bd).pos<=_
   split
   .show(cC _ _).i<=_/\(cC _ _).pos<=_
    omega
   omega
 split
 .unfold iW;split
  .rename_i e f;exact AO hi f
  rename_i k a f;have h:=yi hi f;split
  .exact g
  rename_i u m;have q:u.i=a.i/\u.pos=a.pos:=by
   split at m
   .grind[vW]
   grind
  split
  .exact g
  rename_i b o;have v:=Hb o;have w:=xk b r k;show(bu b r k).i<=_/\(bu b r k).pos<=_
  omega
 split
 .unfold er;split
  .rename_i e f;exact(cY (D:=c.D) _ hi).err f
  rename_i n j f;have p:=(cY (D:=c.D) _ hi).ok f;have x:=LK (c:=c) (n+1) (s:={s with i:=j}) p;split
  .rename_i e k;exact x.1 _ k
  rename_i l a k;have h:=x.2 _ _ k;split
  .exact g
  rename_i u m;have q:=vW m;split
  .exact g
  rename_i b o;have v:=Hb o;split
  .have w:=PD l (bo b ⟨14,n,0,0,0⟩);show(cx l (bo b ⟨14,n,0,0,0⟩)).i<=_/\(cx l (bo b ⟨14,n,0,0,0⟩)).pos<=_
   rw[w.1,w.2];show b.i<=_/\b.pos<=_
   grind
  .exact g
 split
 .unfold mP;split
  .exact g
  rename_i a d;have h:=Hb d;have q:=xk a 12 0;show(bu a 12 0).i<=_/\(bu a 12 0).pos<=_
  omega
 split
 .unfold py;split
  .rename_i e f;exact(cY (D:=c.D) _ hi).err f
  rename_i n j f;have p:=(cY (D:=c.D) _ hi).ok f;split
  .exact g
  rename_i a d;have h:=Ha _ d;show a.i<=_/\a.pos<=_
  grind
 split
 .unfold pz;split
  .exact g
  rename_i d;have h:=PB d;refine⟨?_,?_⟩
  .exact h.1.symm▸hi
  .exact h.2.symm▸hp
 split
 .unfold fI;split
  .exact g
  rename_i a d;split
  .exact g
  rename_i t u m;split
  .exact g
  rename_i b o;have h:=vW d;have q:=PB m;have v:=vW o;show b.i<=_/\b.pos<=_
  omega
 split
 .unfold dn;split
  .rename_i e f;exact(cY (D:=c.D) _ hi).err f
  rename_i n j f;have p:=(cY (D:=c.D) _ hi).ok f;split
  .split
   .split
    .exact g
    rename_i a d;have h:=vW d;show a.i<=_/\a.pos<=_
    grind
   .exact g
  .exact⟨p,hp⟩
 .unfold eK;split
  .rename_i e f;exact(cY (D:=c.D) _ hi).err f
  rename_i n j f;have p:=(cY (D:=c.D) _ hi).ok f;split
  .exact g
  rename_i a d;have h:a.i=j/\a.pos=s.pos:=by
   split at d
   .grind
   .exact vW d
  have q:∀b:Bd,(b=bo a ⟨r,n,0,0,0⟩\/b=fj (bo a ⟨r,n,0,0,0⟩) [c.aZ.getD n 0])->b.i<=c.D.length/\b.pos<=c.D.length:=by
   rintro b (e|e)<;>rw[e]<;>show a.i<=_/\a.pos<=_<;>rw[h.1,h.2]<;>exact⟨p,hp⟩
  refine q _ ?_;grind
omit hp in
theorem Ss:Lb c.D.length (dK c s):=by
 unfold dK;split
 .rename_i e b;exact(Cr hi).err b
 rename_i h j b;have f:=(Cr hi).ok b;split
 .exact Ob hi
 rename_i r i;split
 .exact eb3 hi
 split
 .grind[Hc]
 .unfold iZ;split
  .rename_i e a;exact(uH _ f).err a
  rename_i n k a;have g:=(uH _ f).ok a;split
  .exact eb3 hi
  rename_i e d;have l:=Ha _ d;show e.i<=_/\e.pos<=_
  grind
end
def Su{c:nt}:∀(F:Nat) (s:Bd),s.i<=c.D.length->s.pos<=c.D.length->Lb c.D.length (gw c F s):=by
 intro F;induction F with
 |zero=>intro s hi a;exact⟨hi,a⟩
 |succ F ih=>
  intro s hi a;rw[gw];split
  .split
   .exact Ob hi
   .exact⟨hi,a⟩
  grind[Ss,Lb.ok]
def Sv{D:List UInt8}{fs:List Ty}{gl:List (UInt8×Bool)}{typ:Ty}{ao:List dQ}{i:Nat}(h:i<=D.length):Rb D.length (nD D fs gl typ ao i):=by
 unfold nD;split
 .rename_i e g;exact(Oc h).err g
 rename_i a j g;have r:=(Oc h).ok g;split
 .exact Ob h
 rename_i n;simp only;have o:(D.take (j+a)).length=j+a:=Ve
 have d:(D.take (j+a)).length<=D.length:=Y
 generalize D.take (j+a)=P at *;have f:j<=P.length:=Y
 split
 .rename_i e b;exact((sV _ f).err b).le d
 rename_i l k b;have p:=(sV _ f).ok b;have q:=Su (c:=⟨P,fs,gl,typ.1++l⟩) 2001 ⟨k,ao,[],[⟨0,typ.2,0,0,[]⟩],0,Yj⟩ p (VB _);split
 .rename_i e m;exact(q.err m).le d
 .show j+a<=D.length
  omega
def FG{w:Yw}(c:aq w v l)(d:2000<l.length):
  Yy prog 54 #[v] w λr a=>(∃b,r= Yq (Yu #[Yv H,b])/\gJ w a b (1,0))/\Kp no w a:=by
 obtain⟨g,b,e,f⟩:=c.aJ;subst e;exact AV
def MG(e:aq W v l)(a:2000<l.length):
  df 35 #[v] W (Yu #[Yv H,V O 1,V O 0]) λb=>Kp no W b:=by
 have f:=FG e a;obtain⟨m,g,rfl,h⟩:=e.aJ;go_enter func35,ntmps35;go_wp2_with fail;refine f.mono ?_;rintro r n⟨⟨p,rfl,i,rfl,j,c⟩,k⟩;obtain⟨d,-⟩:=ae c;go_wp2_with fail;refine rj 11 11 (λb=> ∀o,b.cell? ⟨i,o,H⟩=#[V O 1,V O 0][o]?) ?hS λhS=>?_
 case hS=>exact λo=>d o
 refine tj 0 ?_;iterate 10 refine tn ?_
 refine dj ?_;go_wp2;go_ret3;exact⟨U,k.drew⟩
def QG(c:aq W v l)(d:∀b,v.ownBlock=M b->b<W.heap.size)(e:rY W):
  Yy prog 35 #[v] W λr b=>E5 W b (iE l) r/\Kp no W b:=by
 by_cases a:2000<l.length
 .have b:iE l= Ym (1,0):=by simp_all[iE]
  rw[b];exact MG c a
 .exact PN c d e Y
def FE(f:dH)(n:Nat)(args:List Int)(aC:Nat)(mem:List UInt8)(gl:List Int)(bG:List (Int×Int))(K:Nat):Option (Nat×Int×Nat×Mc):=
 match l9 f K (lW f ⟨args,[],0,aC,mem,gl,bG⟩ n)with
 |none=>H
 |some (t,s)=>if s.aC<=aC/\s.stack.length<=1000000 then M (t,(if t=0/\0<s.stack.length then aU s else 0),aC-s.aC,s)else H
def Dg{w:World}{ft:TypeId}{gg:Nat}{h1:List (Int×Int)}{av:Value}{args:List Int}{n aC K:Nat}
  (f:C4 W w B l L h1 d r gg)(h2:dy w S j ft G)(k7:∀b,S b->b<W.heap.size)(e0:W.heap.size<=w.heap.size)(ha:jP w av args)(h3:G.Ok)(hn:n<G.funcs.length)(k8:(G.funcs.getD n du).typ.1.length=args.length)(h4:(G.funcs.getD n du).typ.1.length<=(G.funcs.getD n du).aZ)(N:(G.funcs.getD n du).aZ<=1000)
  (h5:nz w)(h6:2<W.heap.size)(x7:aC<=100000)(e3:L.length<=1000000)(hK:K<=900000){v:Int}{u:Nat}(P:FE G n args aC l L h1 K=some (t,v,u,C)):
  df 51 #[aj j,.int .i64 n,av,.int .i64 aC,aj B] w (mU 0 t v u) λw'=>(∃mv gv,Behind w' W.heap.size B d (λ_=>False) C.mem C.gl C.bG mv gv)/\Kp (λb=>W.heap.size<=b) w w':=by
 have x8:args.length<=1000:=Y
 have x9:=f.o4;have H0:=au f.az;obtain⟨i0,e4,e5,e6,e7⟩:=info_parts iq;obtain⟨H1,H2,e8,H3⟩:=aw.aJ ha;subst e8;unfold FE at P;cases hr:l9 G K (lW G ⟨args,[],0,aC,l,L,h1⟩ n)with
 |none=>rw[hr]at P;cases P
 |some ts=>
 obtain⟨t',y⟩:=ts;rw[hr]at P;simp only at P;split at P;case isFalse=>cases P
 case isTrue k9=>
 obtain⟨k9,H4⟩:=k9;simp only[Vu,V6]at P;obtain⟨rfl,z,hu,rfl⟩:=P;replace h6:=Z h6;replace h5:=Z h5;have e9:=Z f;have HV:=Z z;clear f z;replace N:=Z N;replace h4:=Z h4;change Hid _ at h3 hr hu k8;replace ha:=Z ha;change Hid _ at k7;replace h2:=Z h2;go_enter func51,ntmps51;go_wp2_with(at_builtin;refine bj _ U _ _ 53 U (w.heap.size+2) 38 i0 _ 1 8 underlying53 e4 e5 e6 e7 U Vb _ 0 [] U ⟨U,.inl ⟨U,U⟩⟩ _ args.length _ U (aw.kp ha.out (((Kp.refl no w).alloc _).alloc _) (λ_ _ h=>h)) (dX args) ?c3 ?c4 ?c5 ?_);case c3=>unfold maxLen;omega
 case c4=>omega
 case c5=>simp
 intro v3 J R w0 s0;obtain⟨T,X,s1⟩:=aA R;subst s1;have kW:Kp no w ((w.alloc (.cells #[.int .i64 0,.int .i64 0,.int .u64 0,.int .i64 0] 51)).alloc (.cells #[aj j,aj B,.slice none 0 0,.slice none 0 0,.int .i64 0,.int .i64 aC] 172)):=((Kp.refl no w).alloc _).alloc _;have w1:=Kp.nZ w0;have h7:J.heap[w.heap.size+1]?=some (.cells #[aj j,aj B,.slice none 0 0,.slice none 0 0,.int .i64 0,.int .i64 aC] 172):=by
  have:=ai (w.alloc (.cells #[.int .i64 0,.int .i64 0,.int .u64 0,.int .i64 0] 51)) (.cells #[aj j,aj B,.slice none 0 0,.slice none 0 0,.int .i64 0,.int .i64 aC] 172);rw[show(w.alloc _).heap.size=w.heap.size+1 by simp]at this;exact w1.az this (λh=>h)
 have w2:J.heap[w.heap.size]?=some _:=w1.az (ah (ai w _)) (λh=>h);have H5:w.heap.size+2<=J.heap.size:=by have:=w1.size;simp at this;omega
 have w3:Kp no w J:=kW.trans w1;obtain⟨H6,H7⟩:=ae h7;have w4:Kp no w (J.setCell ⟨w.heap.size+1,2,none⟩ (.slice T args.length X)):=w3.setCell (.inr Vc) _;have w5:(J.setCell ⟨w.heap.size+1,2,none⟩ _).heap[w.heap.size+1]?=some (.cells #[aj j,aj B,.slice T args.length X,.slice none 0 0,.int .i64 0,.int .i64 aC] 172):=heap_setCell h7 _;have h8:(J.setCell ⟨w.heap.size+1,2,none⟩ (.slice T args.length X)).heap[w.heap.size]?=some _:=aB Y _ w2;have w6:(J.setCell _ (.slice T args.length X)).ownsRow _ 38 1 _ args.length _:=
  ((Kp.refl (one (w.heap.size+1)) J).bK 2 _).own R (λb c (e:b=_)=>by have:=aK R b c;omega)
 have f:=cg.first e9.out h2.out k7.out e0 U U w4 (by simp[World.setCell];omega) w5 w6;clear R w0 s0 kW w1 h7 w2 w3 w5 w6;change Hid _ at w4 h8;replace f:=Z f;go_wp2_with fail;generalize J.setCell _ _=W4 at *;obtain⟨E,hE⟩:∃E:gX,E=⟨W.heap.size,λb=>b<W.heap.size\/b=w.heap.size,w.heap.size+1,B,d,j,ft,G,S⟩:=⟨_,U⟩;have h0:E.mb=w.heap.size+1:=by rw[hE]
 have g:E.f=G:=by rw[hE]
 have s:E.lo w.heap.size:=by rw[hE];exact .inr U
 have h9:∀{a b},Kp (gj E) a b->Kp _ a b:=λk=>k.mono (λb _ c=>by rw[hE]at c;exact XI (λh=>c (.inl h)))
 have k0:=yl (E:=E) (by rw[hE];exact f.out) Vc Vd (by rw[g];exact hn) (by rw[g];exact h3.out.nf) (by rw[g];show _<=args.length;have:=k8.out;omega) (by rw[g];exact h4.out) (by rw[g];exact N.out);rw[h0,g]at k0;refine k0.bw ?_;rintro W5⟨x5,e1⟩;have A:=P5 x5 (wR.kp ⟨h5.out.kp w4.out (λh=>h),by rw[hE];exact .inl h6.out⟩ e1) (by rw[g];exact h3.out) (K:=K) ⟨by show(args++List.replicate _ 0).length<=2000;rw[Vn,V0];have:=N.out;omega,by simp[lW],e3,by show aC<=1000000;omega⟩ Y (by rw[g];exact hr.out);rw[h0]at A;have K5:=Z ((h9 e1));have w7:=Z (e1.az h8.out (λh=>h s));clear x5 e1 k0 f h8;replace A:=Z A;go_wp2_with fail;refine A.out.bw ?_;rintro i⟨k6,s2⟩;have K6:=Z (K5.out.trans (h9 s2));have D:=Z (s2.az w7.out (λh=>h s));clear s2 A w7 K5;replace k6:=Z k6;go_upto_region 5 with fail
 obtain⟨H8,s3,k1,⟨s4,s5,s6,-⟩,-⟩:=k6.out.open;subst s6;rw[h0]at k1;have k2:i.heap[w.heap.size+1]?=some (.cells _ 172):=k1;have k3:∀dT q,(i.alloc dT).cell? ⟨w.heap.size+1,q,none⟩=#[aj E.fb,aj E.sb,.slice s4 y.stack.length s5,s3,.int .i64 y.pos,.int .i64 y.aC][q]? :=λdT q=>(ae (ah k2)).1 q
 have H9:w.heap.size+1<i.heap.size:=au k2;have K0: ¬i.heap.size=w.heap.size+1:=Y
 have K1: ¬w.heap.size+1=i.heap.size:=Y
 have K2:IntKind.i64.wrap (aC - y.aC)=u:=by have:=hu.out;rw[IntKind.wrap_i64];omega
 have s7:∀dT q,(i.alloc dT).cell? ⟨w.heap.size,q,none⟩=#[.int .i64 0,.int .i64 0,.int .u64 0,.int .i64 0][q]? :=λdT q=>(ae (ah D.out)).1 q
 have s8:∀dT q,(i.alloc dT).frozen? ⟨w.heap.size,q,none⟩=false:=λdT q=>(ae (ah D.out)).2 q
 have KT:=Z (w4.out.any.trans K6.out);clear k1 k2 w4 K6;rcases VM t' with s9|K3
 .subst s9;rcases VM y.stack.length with x0|K4
  .have z:v=0:=by have:=HV.out;rw[Va Y]at this;exact this.symm
   rw[x0]at k3;clear HV;change Hid _ at z;go_wp2_with fail;have k4:=lD (ah (o:=(.cells #[.int .i64 0,.int .i64 0,.int .u64 0,.int .i64 u] 51)) D.out) (.int .i64 0) (.int .i64 0) (.int .u64 0) (.int .i64 u);obtain⟨F,p⟩:=k4;have I:=(ae F).1;refine bodyPost_ret (v:=mU 0 0 0 u) (by simp[results,results51,go_sem,I]) U ?_;have kA:=(Kp.refl no i).alloc (.cells #[.int .i64 0,.int .i64 0,.int .u64 0,.int .i64 u] 51);refine⟨by rw[z.out];rfl,?_,?_⟩
   .have c:=k6.out.bM (kA.any.trans (p.mono (λb _ (c:b=_)=>by rw[c];exact s)));rw[hE]at c;exact c
   .exact(KT.out.trans kA.any).trans (p.mono (λb _ (c:b=_)=>by rw[c];exact e0))
  .obtain⟨m,w8⟩:∃m,y.stack.length=m+1:=⟨y.stack.length-1,Y⟩;have z:v=aU y:=by have:=HV.out;rw[Vi ⟨U,Y⟩]at this;exact this.symm
   rw[w8]at k3;have kA:=(Kp.refl no i).alloc (.cells #[.int .i64 0,.int .i64 0,.int .u64 0,.int .i64 u] 51);have hg:=k6.out.guard kA (λb=>b=i.heap.size) (λb c=>⟨by rw[c];exact VP _,by rw[c];simp⟩);have x:=cP hg Y Y;change Calls _ _ #[aj E.mb] _ _ at x;rw[h0,<-z]at x;have x1:=Z (ai i (.cells #[.int .i64 0,.int .i64 0,.int .u64 0,.int .i64 u] 51));have x2:=Z (ah (o:=.cells #[.int .i64 0,.int .i64 0,.int .u64 0,.int .i64 u] 51) D.out);clear z HV hg w8;change Hid _ at kA;replace x:=Z x;go_wp2_with fail;refine x.out.bw ?_;rintro x6⟨x3,e2⟩;have w9:=e2.az x1.out (λh=>h (.inr U));have k5:=e2.az x2.out (λh=>h (.inl s));obtain⟨K7,K8⟩:=ae w9;obtain⟨K9,W0⟩:=ae k5;have W1: ¬i.heap.size=w.heap.size:=Y
   have x4: ¬w.heap.size=i.heap.size:=Y
   clear w9 x k3 s7 s8;change Hid _ at e2 k5;replace x3:=Z x3;go_wp2_with fail;have hx:(x6.setCell ⟨i.heap.size,2,none⟩ (.int .u64 v)).heap[w.heap.size]?=some _:=aB x4 _ k5.out;obtain⟨F,p⟩:=lD hx (.int .i64 0) (.int .i64 0) (.int .u64 v) (.int .i64 u);have I:=(ae F).1;refine bodyPost_ret (v:=mU 0 0 v u) (by simp[results,results51,go_sem,I]) U ?_;refine⟨U,?_,?_⟩
   .have c:=x3.out.bM (((Kp.refl (E.plus λb=>b=i.heap.size).lo x6).setCell (.inl (.inr U)) _).trans (p.mono (λb _ (c:b=_)=>by rw[c];exact .inl s)));change ∃mv gv,Behind _ E.B E.sb E.kb _ y.mem y.gl y.bG mv gv at c;rw[hE]at c;exact c
   .exact(((KT.out.trans kA.out.any).trans (h9 (dz e2.out))).setCell (.inl (by show W.heap.size<=i.heap.size;omega)) _).trans (p.mono (λb _ (c:b=_)=>by rw[c];exact e0))
 .obtain⟨m,rfl⟩:∃m,t'=m+1:=⟨t'-1,Y⟩;have z:v=0:=by have:=HV.out;rw[Va Y]at this;exact this.symm
  have W2:(((m+1:Nat):Int)==0)=false:=Vd
  have W3:((m:Int)+1==0)=false:=Vd
  clear HV;change Hid _ at z;go_wp2_with fail;have k4:=lD (ah (o:=(.cells #[.int .i64 0,.int .i64 (m+1),.int .u64 0,.int .i64 u] 51)) D.out) (.int .i64 0) (.int .i64 (m+1)) (.int .u64 0) (.int .i64 u);obtain⟨F,p⟩:=k4;have I:=(ae F).1;refine bodyPost_ret (v:=mU 0 ((m:Int)+1) 0 u) (by simp[results,results51,go_sem,I]) U ?_;have kA:=(Kp.refl no i).alloc (.cells #[.int .i64 0,.int .i64 (m+1),.int .u64 0,.int .i64 u] 51);refine⟨by rw[z.out];rfl,?_,?_⟩
  .have c:=k6.out.bM (kA.any.trans (p.mono (λb _ (c:b=_)=>by rw[c];exact s)));rw[hE]at c;exact c
  .exact(KT.out.trans kA.any).trans (p.mono (λb _ (c:b=_)=>by rw[c];exact e0))
def sf(s:Mc)(b:Nat):Mc:={s with aC:=b}
def OM(b:Nat)(y:Nat×Mc):Nat×Mc:=(y.1,sf y.2 b)
section
variable{f:dH}{s:Mc}{x:dQ}(b:Nat)
theorem JL:gy (sf s b) x=(gy s x).map (OM b):=by unfold gy;rw[VJ (Option.map (OM b))];rfl
theorem Qv(n:Nat):oF f (sf s b) n=(oF f s n).map (OM b):=by unfold oF;rw[VJ (Option.map (OM b)),VJ (Option.map (OM b))];rfl
def vA{P:Prop}(h:P:=by
 rw[JL,VJ (Option.map (OM b)),VJ (Option.map (OM b))];rfl):P:=h
theorem Ie:fB f (sf s b) x=(fB f s x).map (OM b):=by
 unfold fB;split
 .rfl
 split
 .rfl
 split
 .show(if s.stack.length=0 then H else if aU s=0 then gy (sf (aI s) b) x else M (0,sf (aI s) b))=_
  exact vA
 split
 .grind[JL]
 split
 .rw[VJ (Option.map (OM b))];rfl
 split
 .show(if s.stack.length=0 then H else if aU s=0 then M (0,sf (aI s) b)else gy (sf (aI s) b) x)=_
  exact vA
 split
 .show(if s.stack.length=0\/aU s<0 then H else if s.pos+(min (aU s) x.num).toNat<f.ao.length then gy (sf (aI s) b) (f.ao.getD (s.pos+(min (aU s) x.num).toNat) bD)else H)=_
  exact vA
 grind[Qv]
theorem FF:dw (sf s b) x=(dw s x).map (λy=>sf y b):=by
 unfold dw;split
 .rw[VJ (Option.map λy=>sf y b)];rfl
 split
 .rw[VJ (Option.map λy=>sf y b)];rfl
 split
 .rw[VJ (Option.map λy=>sf y b)];rfl
 split
 .rw[VJ (Option.map λy=>sf y b)];rfl
 split
 .rw[VJ (Option.map λy=>sf y b)];rfl
 .rfl
def Qw(p k:Nat):fF (sf s b) p k=fF s p k:=by
 induction k with
 |zero=>rfl
 |succ k ih=>rw[fF,fF,ih];rfl
theorem vB(n z:Nat):iy (sf s b) n z=(iy s n z).map (OM b):=by
 unfold iy;rw[VJ (Option.map (OM b)),VJ (Option.map (OM b)),Qw];rfl
theorem vC(n z:Nat):ei (sf s b) n z=(ei s n z).map (OM b):=by
 unfold ei;rw[VJ (Option.map (OM b)),VJ (Option.map (OM b))];rfl
theorem TD:kO (sf s b)=(kO s).map (λy=>sf y b):=by
 unfold kO;rw[VJ (Option.map λy=>sf y b),VJ (Option.map λy=>sf y b)];rfl
theorem Ig(m:Option Mc):(m.map (λy=>sf y b)).map (λy=>(0,y))=(m.map (λy=>((0:Nat),y))).map (OM b):=by cases m<;>rfl
theorem My:gR (sf s b) x=(gR s x).map (OM b):=by
 unfold gR;split
 .grind[vB]
 split
 .grind[vB]
 split
 .grind[vB]
 split
 .grind[vC]
 split
 .grind[vC]
 split
 .grind[vC]
 split
 .rw[VJ (Option.map (OM b))];rfl
 grind[TD,Ig]
theorem MA:fJ (sf s b)=(fJ s).map (λy=>sf y b):=by
 unfold fJ;rw[VJ (Option.map λy=>sf y b)];rfl
theorem MB:fK (sf s b)=(fK s).map (OM b):=by
 unfold fK;rw[VJ (Option.map (OM b)),VJ (Option.map (OM b))];rfl
theorem yz(a:Bool)(k:Nat):eV a k (sf s b)=(eV a k s).map (OM b):=by
 unfold eV;rw[VJ (Option.map (OM b))];rfl
theorem yA(a:Bool)(k:Nat):eH a k (sf s b)=(eH a k s).map (OM b):=by
 unfold eH;rw[VJ (Option.map (OM b))];show(if 2<=s.stack.length then (match bU a k (aU (aI s)) (aU s)with |none=>H|some (v,t)=>if t=0 then M (0,sf (dM (aI (aI s)) v) b)else M (t,sf (aI (aI s)) b))else H)=_
 cases bU a k (aU (aI s)) (aU s)with
 |none=>rfl
 |some y=>
  obtain⟨v,t⟩:=y;simp only;rw[VJ (Option.map (OM b))];rfl
theorem MC(a:Nat):dO (sf s b) a=(dO s a).map (OM b):=by
 unfold dO;split
 .rw[VJ (Option.map (OM b))];rfl
 split
 .grind[yz]
 split
 .grind[yz]
 split
 .grind[yA]
 split
 .grind[yA]
 split
 .rw[VJ (Option.map (OM b))];rfl
 split
 .rw[VJ (Option.map (OM b))];rfl
 split<;>rfl
theorem TE:fE f (sf s b) x=(fE f s x).map (OM b):=by
 unfold fE;split
 .grind[Ie]
 split
 .rw[VJ (Option.map (OM b))];rfl
 split
 .rw[VJ (Option.map (OM b))];rfl
 split
 .grind[FF,Ig]
 split
 .grind[My]
 split
 .rfl
 grind[MA,Ig,MB,MC]
theorem MD(n:Nat):iz (sf s b) n=(iz s n).map (OM b):=by
 unfold iz;rw[VJ (Option.map (OM b)),VJ (Option.map (OM b)),Qw];rfl
theorem Qx(a:Bool)(k:Nat):gZ a k (sf s b)=(gZ a k s).map (OM b):=by
 unfold gZ;rw[VJ (Option.map (OM b))];rfl
def TF:bZ f (sf s b) x=(bZ f s x).map (OM b):=by
 grind[bZ,MD,Qx,TE]
end
theorem yB{f:dH}{s:Mc}{x:dQ}{s':Mc}(h:bZ f s x=M (t,s')):s'.aC=s.aC:=by
 have:=TF (f:=f) (s:=s) (x:=x) s.aC;rw[show sf s s.aC=s from U,h]at this;have e:s'=sf s' s.aC:=by
  have a:M (t,s')=M (t,sf s' s.aC):=this;grind
 rw[e];rfl
structure QE(w w':Yw)(r:Ending)(ps rs:List UInt8):Prop where
 ex:∃g1 g2,r= Yq (Yu #[Q (M ⟨g1,0,H⟩) ps.length ps.length,Q (M ⟨g2,0,H⟩) rs.length rs.length,V O 0])/\w.heap.size<=g1/\g1<g2/\NB w w' (Q (M ⟨g1,0,H⟩) ps.length ps.length) ps/\NB w w' (Q (M ⟨g2,0,H⟩) rs.length rs.length) rs
def QF{w:Yw}(h:dy w P t 123 G)(I:j<G.funcs.length)(J:G.funcs.length<=1000)(hp:(G.funcs.getD j du).typ.1.length<=1000)(hr:(G.funcs.getD j du).typ.2.length<=1000):
  Yy prog 41 #[aj t,V O j] w λr b=>QE w b r (G.funcs.getD j du).typ.1 (G.funcs.getD j du).typ.2/\Kp no w b:=by
 have u:=qK h;obtain⟨fv,gv,cv,E⟩:=h;obtain⟨ad,L,rfl,N,R⟩:=E.funcs;obtain⟨hc,-⟩:=ae E.az;obtain⟨a,o,pv,rv,rfl,-,c0,c1,-,-,F,-,m,-⟩:=R j I;obtain⟨d,e,rfl,T⟩:=aw.aJ F;obtain⟨f,g,rfl,W⟩:=aw.aJ m;generalize(G.funcs.getD j du).typ.1=p at *;generalize(G.funcs.getD j du).typ.2=rs at *;go_enter func41,ntmps41;go_wp2_with fail;refine u.bw ?_;rintro w1 X;rw[X];go_wp2_with fail;obtain⟨n,i⟩:=uh (w.alloc (Yl #[Q d p.length e,Q f rs.length g] 138));have v:n.heap[w.heap.size]?=M (Yl #[Q d p.length e,Q f rs.length g] 138):=by rw[<-i];exact ai _ _
 have s:Kp no w n:=by rw[<-i];exact(Kp.refl _ _).alloc _
 rw[i];obtain⟨S,c⟩:=bL (λb=> ∀q,b.cell? ⟨w.heap.size,q,H⟩=#[Q d p.length e,Q f rs.length g][q]?:Yw->Prop);have l:∀b,Kp no n b->S b:=λb k=>by rw[c];exact(ae (k.az v id)).1
 refine rj 9 9 (S) ?hS λhS=>?_
 case hS=>exact l _ fL
 have c:=c;subst c;refine tj 0 ?_;refine tj 1 ?_;refine tj 3 ?_;refine tj 4 ?_;refine oj 2 λK q=>?_
 have x:=ob (w:=n.drew) (aw.kp F (s.drew) bW) (bV p) Y;refine sc x ?_;rintro r w2⟨⟨rfl,k⟩,k2⟩;have b:=((Kp.refl no n).drew).trans k2;refine⟨_,U,q _ _ (l _ b) (λhS=>?_)⟩;simp only[pS];refine oj 5 λK q=>?_
 have x:=ob (w:=w2) (aw.kp m (s.trans b) bW) (bV rs) Y;refine sc x ?_;rintro r w3⟨⟨rfl,y⟩,z⟩;refine⟨_,U,q _ _ (l _ (b.trans z)) (λhS=>?_)⟩;simp only[pS];refine tj 6 ?_;iterate 2 refine tn ?_
 refine dj ?_;have q:=bR k U;have A:=b.size;have B:=s.size;have C:=Z (jw (z.own k bW) (B));have D:=Z (jw y (Vk B A));have K:=Z (s.trans (b.trans z));go_wp2;go_ret3;exact⟨⟨_,_,U,B,q,C,D⟩,K⟩
end
section
open Go.RowKit Go.MuLone
theorem nz.lt(h:nz W):2<W.heap.size:=by
 have:=h 0 Vb;grind[World.cell?]
def Ran(w w':Yw)(ro:Nat->Prop)(ib tb mb:Nat)(f:dH)(s:Mc):Prop:= ∃mv gv p,eX w' ro ib tb mb mv gv f s.mem s.gl/\dr w' tb p s.bG/\(∀b,mv.ownBlock=M b->w.heap.size<=b/\b<w'.heap.size)/\(∀b,gv.ownBlock=M b->w.heap.size<=b/\b<w'.heap.size)/\ ∀b,p=M b->w.heap.size<=b/\b<w'.heap.size
def yF{ib:Nat}{mv gv av:Yx}{f:dH}{args:List Int}{p:Option Nat}{k0:List (Int×Int)}{n aC:Nat}(h:eX W P ib a j mv gv f l L)(hs:dr W a p k0)
  (h2:nz W)(H3:ib≠2)(s7:a≠2)(k1:f.Ok)(ha:jP W av args)(s8:args.length<=1000)(s9:∀b,av.ownBlock=M b->b≠ib/\b≠a)(J:∀k,k<f.funcs.length->(f.funcs.getD k du).typ.1.length<=(f.funcs.getD k du).aZ/\(f.funcs.getD k du).aZ<=1000)(he:gA f n args aC=0)
  (hK:B<=900000){v:Int}(hm:FE f n args aC l L k0 B=M (t,v,d,C))(K:t=0->C.mem.length<=1000000/\C.gl.length<=1000000/\C.bG.length<=1000):
  df 27 #[aj ib,V O n,av,V O aC] W (mU 0 t v d) λx=>
   (t=0->Ran W x P ib a j f C)/\(t≠0->eX x P ib a j mv gv f l L/\dr x a p k0)/\Kp (yE ib a) W x:=by
 have N:=h.neI hs;have x0:n<f.funcs.length/\oV args (f.funcs.getD n du).typ.1=Yk/\aC<=100000:=by
  unfold gA at he;split at he
  .cases he
  .split at he
   .cases he
   .split at he
    .cases he
    .rename_i h1 E c;refine⟨Y,?_,Y⟩;rw[show((n:Int)).toNat=n by omega]at E;simpa using E
 obtain⟨hn,h3,x1⟩:=x0;have w6:(f.funcs.getD n du).typ.1.length=args.length:=by
  unfold oV at h3;simp only[Vo,Vx]at h3;exact h3.1.symm
 obtain⟨H4,H5,x2,H6⟩:=aw.aJ ha;subst x2;have h4:=h.az;have h5:=hs.az;have x3:∀dT q,(W.alloc dT).cell? ⟨ib,q,H⟩=#[aj a,aj j,mv,gv][q]? :=λdT q=>(ae (ah h4)).1 q
 have k2:=λdT=>mL (ah (o:=dT) h4)
 have w7:∀dT,(W.alloc dT).cell? ⟨a,0,H⟩=M (V .i32 0):=λdT=>(ae (ah h5)).1 0
 have w8:∀dT,(W.alloc dT).frozen? ⟨a,0,H⟩=false:=λdT=>(ae (ah h5)).2 0
 have H7:=h2.lt;replace h2:=Z h2;have c:=Z h;have HS:=Z hs;have H8:=au h5;have H9:=au h4;clear h hs h4 h5 h3;change Hid _ at k1 J hm w6;replace ha:=Z ha;change Hid _ at k2;go_enter_defers func27,ntmps27;go_wp2_with fail;refine(k2 _).cJ ?_;go_wp2_with fail;refine(lock_free nR _ _ (w7 _) (w8 _)).cJ ?_;have w:=vD.of c HS ha s9;have x4:((W.alloc Ip).setCell ⟨a,0,H⟩ (V .i32 1)).heap.size=W.heap.size+1:=by simp[World.setCell]
 obtain⟨w9,e0⟩:=bL ((W.alloc Ip).setCell ⟨a,0,H⟩ (V .i32 1));rw[<-e0]at w x4⊢;have R:=wo (n:=n) (aC:=aC) w.inst.mod k1.nf w.dW s8 (λk e=>Vk (J k e).1 (J k e).2);rw[he]at R;have x5:=(ae w.inst.az).1;have h6:=L9 w.inst ((ae w.iQ).1 2) w.map HS.few;clear x3 w7 w8 k2 e0 ha;replace h6:=Z h6;replace R:=Z R;change Hid _ at w;go_wp2_with fail;refine R.cJ ?_;go_wp2_with fail;refine h6.mono ?_;rintro r W1⟨⟨sb,F,gm,gg,rfl,D⟩,G⟩;have h7:=Dg D (w.inst.mod.kp G.any) (λb g=>(w.inst.Um b g).1) G.size (aw.kp w.dW G bW) k1 hn w6 (J n hn).1 (J n hn).2 ((h2.kp w.kp (λe=>s7 e.symm)).kp G id) Y x1 c.gn hK hm;have x6:=(ae (G.az w.inst.az id)).1;have K0:=G.size;clear R h6 hm x5;change Hid _ at G D;replace h7:=Z h7;go_wp2_with fail;refine h7.bw ?_;rintro I⟨⟨K1,K2,i⟩,w5⟩;have e4:=w5.az (G.az w.inst.az id) (show ¬w9.heap.size<=ib by omega);have T:=w5.az (G.az w.iQ id) (show ¬w9.heap.size<=a by omega);have X:=w5.az (G.az w.rep id) (show ¬w9.heap.size<=W.heap.size by omega);have K3:=w5.size;go_upto_region 10 with fail
 have e5:=Z T;have K4:=Z (G.any.trans w5);have K5:=au i.az;clear T w5 h7 G x6;change Hid _ at i e4 X;rcases VM t with x7|K6
 .subst x7;replace K:=K U;obtain⟨k,m,x8,-⟩:=aw.aJ (aw.own i.tU);obtain⟨s,u,x9,-⟩:=aw.aJ (aw.own i.JC);subst x8 x9;have k3:=ah (o:= Yl #[V O 0,V O 0,V Yr v,V O d] 51) i.az;have A:=ah (o:= Yl #[V O 0,V O 0,V Yr v,V O d] 51) e4;have h8:=ah (o:= Yl #[V O 0,V O 0,V Yr v,V O d] 51) e5;have e6:=ah (o:= Yl #[V O 0,V O 0,V Yr v,V O d] 51) X;have k4:=ai I (Yl #[V O 0,V O 0,V Yr v,V O d] 51);have kA:=(Kp.refl no I).alloc (Yl #[V O 0,V O 0,V Yr v,V O d] 51);have o1:=D.o1;have o2:=D.o2;have o3:=D.o3;have o4:=D.o4;go_wp2_with fail;generalize I.alloc _=z at *;obtain⟨S,h9⟩:=bL (λx=>x.cell? ⟨ib,0,H⟩=M (aj a)/\(∀q,x.cell? ⟨sb,q,H⟩=#[Q k C.mem.length m,Q s C.gl.length u,.map (M F)][q]?):Yw->Prop);have H0:∀W' x y,W'.heap[ib]?=M (mI a j x y)->W'.heap[sb]?=M (Yl #[Q k C.mem.length m,Q s C.gl.length u,.map (M F)] 125)->S W':=λW' x y h1 E=>by rw[h9];exact⟨(ae h1).1 0,(ae E).1⟩
  have h0:=Z H0;have e7:=Z h9;have k5:(z.setCell ⟨ib,2,H⟩ (Q k C.mem.length m)).heap[ib]?=M (mI a j _ gv):=heap_setCell A _;have k6:((z.setCell _ _).setCell ⟨ib,3,H⟩ (Q s C.gl.length u)).heap[ib]?=M (mI a j _ _):=heap_setCell k5 _;have k7:∀x o,(z.setCell ⟨ib,o,H⟩ x).heap[sb]?=M _:=λx o=>aB Y _ k3
  have e8:∀x o,(z.setCell ⟨ib,o,H⟩ x).heap[a]?=M _:=λx o=>aB (λe=>N e.symm) _ h8
  have k8:=aB (o:=3) (show sb≠ib by omega) (Q s C.gl.length u) (k7 (Q k C.mem.length m) 2);have e9:=aB (o:=3) (show a≠ib by omega) (Q s C.gl.length u) (e8 (Q k C.mem.length m) 2);have k9:=aB (o:=2) N (.map (M F)) k6;have s0:=aB (o:=2) (show sb≠a by omega) (.map (M F)) k8;have T:=heap_setCell (o:=2) e9 (.map (M F));have c1:z.cell? ⟨ib,2,H⟩=M mv:=(ae A).1 2;have d1:z.frozen? ⟨ib,2,H⟩=false:=(ae A).2 2;have c2:z.cell? ⟨ib,3,H⟩=M gv:=(ae A).1 3;have d2:z.frozen? ⟨ib,3,H⟩=false:=(ae A).2 3;have c3:z.cell? ⟨a,2,H⟩=M (.map p):=(ae h8).1 2;have d3:z.frozen? ⟨a,2,H⟩=false:=(ae h8).2 2;have K7: ¬a=ib:=λe=>N e.symm
  have K8: ¬ib=a:=N;refine wp_region_noPanic ?_;refine rj 27 27 (S) ?hS λhS=>?_
  case hS=>exact h0 _ _ _ A k3
  have h9:=e7.out;subst h9;refine tj 0 ?_;iterate 19 refine tn ?_
  refine oj 20 λB hK=>?_
  go_simp;refine hK _ _ (h0 _ _ _ k5 (k7 _ 2)) (λhS=>?_);clear hK B;refine tj 21 ?_;refine tj 22 ?_;refine oj 23 λB hK=>?_
  go_simp;refine hK _ _ (h0 _ _ _ k6 k8) (λhS=>?_);clear hK B;refine tj 24 ?_;refine tj 25 ?_;refine oj 26 λB hK=>?_
  go_simp;refine hK _ _ (h0 _ _ _ k9 s0) (λhS=>?_);clear hK B;refine dj ?_;clear hS h0 e7;have K9:I.heap.size<z.heap.size:=au k4;have s1:=aB (o:=2) (show W.heap.size≠a by omega) (.map (M F)) (aB (o:=3) (show W.heap.size≠ib by omega) (Q s C.gl.length u) (aB (o:=2) (show W.heap.size≠ib by omega) (Q k C.mem.length m) e6));have s2:=aB (o:=2) (show I.heap.size≠a by omega) (.map (M F)) (aB (o:=3) (show I.heap.size≠ib by omega) (Q s C.gl.length u) (aB (o:=2) (show I.heap.size≠ib by omega) (Q k C.mem.length m) k4));have s6:Kp _ z (((z.setCell _ (Q k C.mem.length m)).setCell _ (Q s C.gl.length u)).setCell _ (.map (M F))).drew:=((((Kp.refl (yE ib a) z).bE (Yo U) 2 _).bE (Yo U) 3 _).bE (Yp U) 2 _).drew;obtain⟨W6,y⟩:=bL ((((z.setCell ⟨ib,2,H⟩ (Q k C.mem.length m)).setCell ⟨ib,3,H⟩ (Q s C.gl.length u)).setCell ⟨a,2,H⟩ (.map (M F))).drew);have s3:W6.heap[ib]?=M (mI a j (Q k C.mem.length m) (Q s C.gl.length u)):=by rw[y];exact k9
  have s4:W6.heap[a]?=M (Yl #[V .i32 1,V .u32 0,.map (M F)] 110):=by rw[y];exact T
  have w0:W6.heap[W.heap.size]?=M Ip:=by rw[y];exact s1
  have s5:W6.heap[I.heap.size]?=M (Yl #[V O 0,V O 0,V Yr v,V O d] 51):=by rw[y];exact s2
  rw[<-y]at s6⊢;obtain⟨e1,-⟩:=ae s5;obtain⟨e2,e3⟩:=ae w0;clear y k5 k6 k7 e8 k8 e9 k9 s0 T c1 d1 c2 d2 c3 d3 s1 s2 s5 A h8 e6 k4 k3;replace s6:=Z s6;change Hid _ at s3 s4 w0 kA;unfold NoPanic;go_wp2_with fail;refine leaves_cons (f:=48) (args:=#[Yv (M ⟨a,0,H⟩)]) Vc (by simp[go_sem]) ?_;obtain⟨w1,e⟩:=lD w0 (V O 0) (V O 0) (V Yr v) (V O d);have h1:W.heap.size≠a:=Y
  have H1:W.heap.size≠ib:=Y
  have E:=e.az s4 (λh=>h1 h.symm);have H2:=e.az s3 (λh=>H1 h.symm);generalize((((W6.setCell _ _).setCell _ _).setCell _ _).setCell _ _)=W0 at *;refine(unlock_deferred nR _ .returning _ ((ae E).1 0) ((ae E).2 0)).mono ?_;rintro r u' W2⟨rfl,rfl,rfl⟩;have w2:=(ae (aB (o:=0) h1 (V .i32 0) w1)).1;refine⟨mU 0 0 v d,by simp[results,results27,go_sem,w2],U,?_⟩;have x:Kp (λb=>b=ib\/b=a\/b=W.heap.size) I (W0.setCell ⟨a,0,H⟩ (V .i32 0)):=
   (((kA.any.trans (s6.mono (λb _ g=>g.elim Yo (λh=> Yp (Yo h))))).trans (e.mono (λb _ (g:b=_)=> Yp (Yp g)))).setCell (Yo (Yp (Yo U))) _)
  have kF:Kp (yE ib a) W _:=
   (w.kp.mono (S':=λb=>b=ib\/b=a\/W.heap.size<=b) (λb _ (g:b=_)=> Yp (Yo g))).comp ((K4.mono (S':=λb=>b=ib\/b=a\/W.heap.size<=b) (λb _ g=> Yp (Yp Y))).trans (x.mono (λb _ g=>Y))) (λb g h=>by rcases h with h|h|h;exact Yo h;exact Yp h;omega) (λb g h=>by rcases h with h|h|h;exact Yo h;exact Yp h;omega)
  have w3:∀b,(Value.slice k C.mem.length m).ownBlock=M b->w9.heap.size<=b:=λb g=>aK i.tU b g
  have w4:∀b,(Value.slice s C.gl.length u).ownBlock=M b->w9.heap.size<=b:=λb g=>aK i.JC b g
  refine⟨⟨Q k C.mem.length m,Q s C.gl.length u,M F,⟨aB N _ H2,c.mod.kp (kF.mono (λb _ hs hr=>by have:=c.Um b hr;rcases hs with h|h<;>omega)),?_,?_,K.1,K.2.1,λb g=>⟨Vm (c.Um b g).1 kF.size,(c.Um b g).2⟩,λb g=>cj (w3 b g),λb g=>cj (w4 b g)⟩,⟨heap_setCell E _,Yp ⟨F,U,?_⟩,K.2.2⟩,λb g=>⟨cj (w3 b g),rq ((i.tU.lt b g).2) x.size⟩,λb g=>⟨cj (w4 b g),rq ((i.JC.lt b g).2) x.size⟩,λb g=>⟨cj (Vr g),by have:=Vr g;have:=i.bG.lt;have:=x.size;omega⟩⟩,kF⟩
  .exact aw.kp (aw.own i.tU) x (λb g h=>cj (w3 b g))
  .exact aw.kp (aw.own i.JC) x (λb g h=>cj (w4 b g))
  .exact i.bG.kp x (λh=>Y)
 .obtain⟨m,rfl⟩:∃m,t=m+1:=⟨t-1,Y⟩;have u:(((m+1:Nat):Int)==0)=false:=Vd
  have x:((m:Int)+1==0)=false:=Vd
  have k:∀dT q,(I.alloc dT).cell? ⟨W.heap.size,q,H⟩=#[V O 0,V O 0,V Yr 0,V O 0][q]? :=λdT q=>(ae (ah X)).1 q
  have s:∀dT q,(I.alloc dT).frozen? ⟨W.heap.size,q,H⟩=false:=λdT q=>(ae (ah X)).2 q
  go_wp2_with fail;refine leaves_cons (f:=48) (args:=#[Yv (M ⟨a,0,H⟩)]) Vc (by simp[go_sem]) ?_;obtain⟨w1,e⟩:=lD (ah (o:= Yl #[V O 0,V O (m+1),V Yr v,V O d] 51) X) (V O 0) (V O (m+1)) (V Yr v) (V O d);have kA:=(Kp.refl no I).alloc (Yl #[V O 0,V O (m+1),V Yr v,V O d] 51);have h1:W.heap.size≠a:=Y
  have E:=e.az (kA.az e5 id) (λh=>h1 h.symm);have q:=((K4.trans kA.any).mono (S':=λb=>W.heap.size<=b) (λb _ g=>Y)).trans (e.mono (λb _ (g:b=_)=>Y));clear e kA k s;generalize World.setCell _ _ _=z at *;refine(unlock_deferred nR _ .returning _ ((ae E).1 0) ((ae E).2 0)).mono ?_;rintro r u' A⟨rfl,rfl,rfl⟩;have w2:=(ae (aB (o:=0) h1 (V .i32 0) w1)).1;refine⟨mU 0 ((m:Int)+1) v d,by simp[results,results27,go_sem,w2],U,λh=>absurd h Y,?_⟩;obtain⟨b,g,y⟩:=w.back c HS q;exact⟨λ_=>⟨b,g⟩,y⟩
end
section
open Go.RowKit
def abK(s:Mc):(aI s).stack.length=s.stack.length-1:=by grind[aI]
theorem JF{r:mQ}(h:eu g=M r):r∈gM/\r.fr.toNat<=g.toNat/\g.toNat<=r.upto.toNat:=by
 unfold eu at h;have a:=List.find?_some h;have b:=List.mem_of_find?_eq_some h;simp_all[Wz]
section
variable{f:dH}{gl:List (UInt8×Bool)}{T:dA}{fW:List UInt8}{s:Mc}{p:Pt}{x:dQ}{q:Nat}
variable(fr:Fr T fW p.lo p.res p.st s)(hS:oH gl s)(hc:s.aD.length<=16)(hp:s.pos=q+1)
include fr hS hc hp
def Mg(hi:EY (f.funcs.map (·.typ)) gl T f.ao q p x)(j:x.op.toNat=26\/x.op.toNat=27\/(32<=x.op.toNat/\x.op.toNat<=36)):eI gl T fW p.dp x.op s (bZ f s x):=by
 rw[fx ⟨Y,Y,Y⟩];have d:x.op≠5:=λe=>Vh
 have b:x.op≠11:=λe=>Vh
 have no:∀c:UInt8,x.op=c->c.toNat<=16->False:=λc e h=>Ve
 cases hi with
 |drop l t h e g=>
  rw[<-hp]at g;rw[e]at fr;obtain⟨m,-,a⟩:=fr.fe;have c:x.op.toNat=26:=by rw[h];rfl
  refine eI.on (s':=aI s) ?_ hc d b g a (hS.same U U U) U U U;unfold fE;grind
 |choose l t h e g=>
  rw[<-hp]at g;rw[e]at fr;obtain⟨m,-,i⟩:=fr.fe;obtain⟨u,v,n⟩:=i.fe;obtain⟨w,y,o⟩:=n.fe;have c:x.op.toNat=27:=by rw[h];rfl
  have r:(aI s).stack.length=s.stack.length-1:=by grind[aI]
  have z:=abK (aI s);refine eI.on (s':=lB s) ?_ hc d b g ?_ (hS.same U U U) U U U
  .unfold fE;grind
  grind[lB,Fr.put]
 |CP h c g=>
  rw[<-hp]at g;have j:x.op.toNat=32:=by rw[h];rfl
  obtain⟨i,n,o⟩:=fr.CP c;refine eI.on (s':=dM s (s.stack.getD ((cE s).1+x.num) 0)) ?_ hc d b g (fr.put o) (hS.same U U U) U U U;simp_all[fE,dw]
 |EZ l h c e g=>
  rw[<-hp]at g;have j:x.op.toNat=33:=by rw[h];rfl
  rw[e]at fr;obtain⟨m,v,a⟩:=fr.fe;obtain⟨i,n,-⟩:=a.CP c;have r:(aI s).stack.length=s.stack.length-1:=by grind[aI]
  have o:(cE s).1+x.num<(aI s).stack.length:=n;refine eI.on (s':={aI s with stack:=(aI s).stack.set ((cE s).1+x.num) (aU s)}) ?_ hc d b g (a.EZ c v) (hS.same U U U) U U U;unfold fE dw;rw[Va Y,Va Y,Va Y,Vi Y,Va Ve,Vi h,Vi ⟨i,Y⟩];rfl
 |Px l h c e g=>
  rw[<-hp]at g;have j:x.op.toNat=34:=by rw[h];rfl
  rw[e]at fr;obtain⟨m,v,a⟩:=fr.fe;obtain⟨i,n,-⟩:=a.CP c;have r:(aI s).stack.length=s.stack.length-1:=by grind[aI]
  have o:(cE s).1+x.num<(aI s).stack.length:=n;refine eI.on (s':=dM {aI s with stack:=(aI s).stack.set ((cE s).1+x.num) (aU s)} (aU s)) ?_ hc d b g ((a.EZ c v).put v) (hS.same U U U) U U U;unfold fE dw;rw[Va Y,Va Y,Va Y,Vi Y,Va Ve,Va Ve,Vi h,Vi ⟨i,Y⟩];rfl
 |Py h c g=>
  rw[<-hp]at g;have j:x.op.toNat=35:=by rw[h];rfl
  have i:=hS.gl.len;rw[VH]at i;have n:=hS.gl.get (k:=x.num) Ve;have e1:(gl.map (·.1)).getD x.num 0=(gl.getD x.num (0,Yj)).1:=by
   grind
  rw[e1]at n;refine eI.on (s':=dM s (s.gl.getD x.num 0)) ?_ hc d b g (fr.put n) (hS.same U U U) U U U;simp_all[fE,dw]
 |Pz l h c e g=>
  rw[<-hp]at g;have j:x.op.toNat=36:=by rw[h];rfl
  have i:=hS.gl.len;rw[VH]at i;rw[e]at fr;obtain⟨m,v,a⟩:=fr.fe;have e1:(gl.map (·.1)).getD x.num 0=(gl.getD x.num (0,Yj)).1:=by
   grind
  rw[<-e1]at v;refine eI.on (s':={aI s with gl:=s.gl.set x.num (aU s)}) ?_ hc d b g (a.same U U) ⟨hS.gl.set v,hS.mem,hS.bG⟩ rfl U U;simp_all[fE,dw]
 |stop h=>simp_all
 |into h=>rcases h with h|h<;>exact(no _ h Vb).elim
 |Jt _ h=>simp_all
 |nK h=>simp_all
 |AM h=>grind
 |cond _ h=>simp_all
 |table _ h=>simp_all
 |call _ h=>simp_all
 |plain r l c e=>
  have a:∀y:Fin 256,(y.val=26\/y.val=27\/(32<=y.val/\y.val<=36))->(match eu (UInt8.ofNat y.val)with |none=>Yk|some r=>r.bM==4)=true:=by decide +kernel
  have:=a ⟨x.op.toNat,x.op.toNat_lt⟩ j;simp_all
end
section
variable{f:dH}{gl:List (UInt8×Bool)}{T:dA}{fW:List UInt8}{s:Mc}{p:Pt}{x:dQ}{st:List UInt8}
def qM{z:Nat}{t:UInt8}{V:Nat->Int}{m:Option (Nat×Mc)}(e:Fr T fW p.lo p.res (st++[127]) s)(hS:oH gl s)(h:s.aD.length<=16)(i:x.op≠5)(c:x.op≠11)(l:x.num<4294967296)(g:Goes T p s.pos (st++[t]))(j:∀a,dh t (V a))
  (b:m=if fD s x.num=Yj then H else if s.mem.length<(aU s).toNat+x.num+z then M (4,aI s)else M (0,dM (aI s) (V ((aU s).toNat+x.num)))):eI gl T fW p.dp x.op s m:=by
 obtain⟨n,v,a⟩:=e.fe;have o:=v.M1;have k:=hS.mem.2;have d:fD s x.num=true:=by unfold fD;grind
 rw[d,Va Vb]at b;split at b
 .exact eI.trap b Vb Vb U (eO s)
 .exact eI.on b h i c g (a.put (j _)) (hS.same U U U) U U U
theorem vn{t:UInt8}(h:Fr T fW p.lo p.res (st++[127]++[t]) s)(hS:oH gl s)(i:s.aD.length<=16)(j:x.op≠5)(b:x.op≠11)(r:x.num<4294967296)(g:Goes T p s.pos st):eI gl T fW p.dp x.op s (ei s x.num k):=by
 obtain⟨u,v,c⟩:=h.fe;obtain⟨w,l,d⟩:=c.fe;have y:=v.any;have n:=l.M1;have e:=hS.mem.2;have o:(aI s).mem.length<=256:=e;have z:(aI s).stack.length=s.stack.length-1:=by grind[aI]
 have q:fD (aI s) x.num=true:=by unfold fD;grind
 obtain⟨m,a⟩:=bL (ei s x.num k);rw[<-a];unfold ei at a;rw[Va Ve]at a;split at a
 .exact eI.trap a Vb Vb U (Vk (eO _) (eO s))
 .refine eI.on a i j b g (d.same U U) ⟨hS.gl,?_,hS.bG⟩ rfl U U;grind[yn,oH.mem]
def qN{t1 t2 t3:UInt8}{m:Option (Nat×Mc)}(d:Fr T fW p.lo p.res (st++[t1]++[t2]) s)(hS:oH gl s)(i:s.aD.length<=16)(j:x.op≠5)(c:x.op≠11)(g:Goes T p s.pos (st++[t3]))
  (k:∀a b,aU (aI s)=a->aU s=b->dh t1 a->dh t2 b->2<=s.stack.length-> ∃v t,m=(if t=0 then M (0,dM (aI (aI s)) v)else M (t,aI (aI s)))/\dh t3 v/\t≠5):eI gl T fW p.dp x.op s m:=by
 obtain⟨q,v,a⟩:=d.fe;obtain⟨r,l,b⟩:=a.fe;have u:(aI s).stack.length=s.stack.length-1:=by grind[aI]
 obtain⟨w,t,e,n,o⟩:=k _ _ U U l v Y;by_cases h:t=0
 .rw[Vi h]at e;exact eI.on e i j c g (b.put n) (hS.same U U U) U U U
 .rw[Va h]at e;exact eI.trap e h o U (Vk (eO _) (eO s))
def jS{t1 t3:UInt8}{m:Option (Nat×Mc)}(c:Fr T fW p.lo p.res (st++[t1]) s)(hS:oH gl s)(d:s.aD.length<=16)(h:x.op≠5)(b:x.op≠11)(g:Goes T p s.pos (st++[t3]))
  (i:∀a,aU s=a->dh t1 a->0<s.stack.length-> ∃v,m=M (0,dM (aI s) v)/\dh t3 v):eI gl T fW p.dp x.op s m:=by
 obtain⟨j,v,a⟩:=c.fe;obtain⟨w,e,k⟩:=i _ U v j;exact eI.on e d h b g (a.put k) (hS.same U U U) U U U
end
def Ta(h:0<C.stack.length):dM (aI C) (aU C)=C:=by
 obtain⟨a,b,c,d,e,f,g⟩:=C;have i:0<a.length:=h;show Mc.mk (a.take (a.length-1)++[a.getD (a.length-1) 0]) b c d e f g=Mc.mk a b c d e f g
 grind[List.take_append_getElem]
section
variable{f:dH}{gl:List (UInt8×Bool)}{T:dA}{fW:List UInt8}{s:Mc}{p:Pt}{x:dQ}{st:List UInt8}(hS:oH gl s)(hc:s.aD.length<=16)(h5:x.op≠5)(h11:x.op≠11)
include hS hc h5 h11
end
section
variable{f:dH}{gl:List (UInt8×Bool)}{T:dA}{fW:List UInt8}{s:Mc}{p:Pt}{x:dQ}{st:List UInt8}
def qO{P:Prop}(h:P:=by
 rw[fx ⟨Y,Y,Y⟩];unfold fE dO;grind):P:=h
def Mh(hS:oH gl s)(j:s.aD.length<=16){r:mQ}(D:eu x.op=M r)(y:r.bM≠4)(n:Fr T fW p.lo p.res (st++r.takes) s)(g:Goes T p s.pos (st++r.gives))(L:x.num<18446744073709551616)(q:r.bM≠3->x.num<4294967296)(A:17<=x.op.toNat):
  eI gl T fW p.dp x.op s (bZ f s x):=by
 have l:x.op≠5:=λe=>by rw[e]at A;revert A;decide
 have d:x.op≠11:=λe=>by rw[e]at A;revert A;decide
 obtain⟨t,E,B⟩:=JF D;unfold gM at t;simp only[Wg,WK,XW]at t;rcases t with rfl |rfl |rfl |rfl |rfl |rfl |rfl |rfl |rfl |rfl |rfl |rfl |rfl |rfl |rfl |rfl |rfl |rfl |rfl |rfl |rfl |rfl |rfl |rfl |rfl |rfl |rfl |rfl
 all_goals simp at E B;dsimp only at n g q
 .exact absurd U y
 .exact absurd (Vk A B) Vb
 .exact absurd U y
 .exact absurd U y
 .exact absurd U y
 .exact absurd U y
 .have c:x.op.toNat=40:=Y
  have h:x.op=40:=Vp.1 c;refine qM (z:=4) (V:=λa=>(fF s a 4)) n hS j l d (q Vb) g (λa=>fC Y (by grind[P8])) ?_;obtain⟨_,_,_,_,_⟩:=x;cases h;rfl
 .have c:x.op.toNat=41:=Y
  have h:x.op=41:=Vp.1 c;refine qM (z:=8) (V:=λa=>(fF s a 8)) n hS j l d (q Vb) g (λa=>fV Y (by grind[JA])) ?_;obtain⟨_,_,_,_,_⟩:=x;cases h;rfl
 .rcases(by omega :x.op.toNat=44\/x.op.toNat=45)with c|c
  .have h:x.op=44:=Vp.1 c;refine qM (z:=1) (V:=λa=>Hj (fF s a 1)) n hS j l d (q Vb) g (λa=>aab _) ?_;obtain⟨_,_,_,_,_⟩:=x;cases h;rfl
  .have h:x.op=45:=Vp.1 c;refine qM (z:=1) (V:=λa=>(fF s a 1)) n hS j l d (q Vb) g (λa=>fC Y (by grind[P9])) ?_;obtain⟨_,_,_,_,_⟩:=x;cases h;rfl
 .have c:x.op.toNat=54:=Y
  have h:x.op=54:=Vp.1 c;have i:Fr T fW p.lo p.res (st++[127]++[127]) s:=Ve
  have t:bZ f s x=ei s x.num 4:=by
   obtain⟨_,_,_,_,_⟩:=x;cases h;rfl
  grind[vn]
 .have c:x.op.toNat=55:=Y
  have h:x.op=55:=Vp.1 c;have i:Fr T fW p.lo p.res (st++[127]++[126]) s:=Ve
  have t:bZ f s x=ei s x.num 8:=by
   obtain⟨_,_,_,_,_⟩:=x;cases h;rfl
  grind[vn]
 .have c:x.op.toNat=58:=Y
  have h:x.op=58:=Vp.1 c;have i:Fr T fW p.lo p.res (st++[127]++[127]) s:=Ve
  have t:bZ f s x=ei s x.num 1:=by
   obtain⟨_,_,_,_,_⟩:=x;cases h;rfl
  grind[vn]
 .have c:x.op.toNat=63:=Y
  have h:x.op=63:=Vp.1 c;have i:Fr T fW p.lo p.res st s:=Ve
  have b:=hS.mem.2;refine eI.on (s':=dM s ((s.mem.length/64:Nat):Int)) ?_ j l d g (i.put (fC Y Y)) (hS.same U U U) U U U;rw[fx ⟨Y,Y,Y⟩];unfold fE gR;grind
 .have c:x.op.toNat=64:=Y
  have h:x.op=64:=Vp.1 c;obtain⟨F,v,u⟩:=n.fe;have K:=v.M1;obtain⟨b,m⟩:=hS.mem;have t:bZ f s x=(kO s).map (λs'=>(0,s')):=by
   obtain⟨_,_,_,_,_⟩:=x;cases h;rfl
  rw[t];unfold kO;rw[Va Y];split
  .exact eI.on U j l d g (u.put (fC Vb Vb)) (hS.same U U U) U U U
  .refine eI.on U j l d g ((u.same (s':={aI s with mem:=s.mem++List.replicate _ 0}) U U).put (fC Y Y)) ⟨hS.gl,?_,hS.bG⟩ rfl U U;show(s.mem++List.replicate _ 0).length%64=0/\(s.mem++List.replicate _ 0).length<=256
   grind
 .have c:x.op.toNat=65:=Y
  have i:Fr T fW p.lo p.res st s:=Ve
  refine eI.on (s':=dM s x.num) ?_ j l d g (i.put (fC Y Y)) (hS.same U U U) U U U;have h:x.op=65:=Vp.1 c;obtain⟨_,_,_,_,_⟩:=x;cases h;rfl
 .have c:x.op.toNat=66:=Y
  have i:Fr T fW p.lo p.res st s:=Ve
  refine eI.on (s':=dM s x.num) ?_ j l d g (i.put (fV Y Y)) (hS.same U U U) U U U;have h:x.op=66:=Vp.1 c;obtain⟨_,_,_,_,_⟩:=x;cases h;rfl
 .have c:x.op.toNat=69:=Y
  refine jS n hS j l d g (λa o m w=>⟨truth (aU s==0),?_,tY _⟩);exact qO
 .have i:Fr T fW p.lo p.res (st++[127]++[127]) s:=Ve
  refine qN i hS j l d g (λa b o G m C I=>⟨truth (eU Yj (x.op.toNat-70) (aU (aI s)) (aU s)),0,?_,tY _,Vb⟩);rw[fx ⟨Y,Y,Y⟩];unfold fE dO;rw[Va Y,Va Y,Va Y,Va Y,Va Y,Va Y,Va Y,Va Y,Va Y,Vi Y];simp_all[eV]
 .have c:x.op.toNat=80:=Y
  refine jS n hS j l d g (λa o m w=>⟨truth (aU s==0),?_,tY _⟩);exact qO
 .have i:Fr T fW p.lo p.res (st++[126]++[126]) s:=Ve
  refine qN i hS j l d g (λa b o G m C I=>⟨truth (eU Yk (x.op.toNat-81) (aU (aI s)) (aU s)),0,?_,tY _,Vb⟩);rw[fx ⟨Y,Y,Y⟩];unfold fE dO;rw[Va Y,Va Y,Va Y,Va Y,Va Y,Va Y,Va Y,Va Y,Va Y,Va Y,Vi Y];simp_all[eV]
 .refine jS n hS j l d g (λa o m w=>?_);refine⟨_,?_,Fv (wd:=Yj) (k:=x.op.toNat-103) Y (a:=aU s) (by rw[o];exact m)⟩;unfold bZ gZ;have D:=m.any;rw[Va (λe=>Vh),Vi Y,Va Y]
 .have i:Fr T fW p.lo p.res (st++[127]++[127]) s:=Ve
  refine qN i hS j l d g (λa b o G m C I=>?_);obtain⟨v,J,e1,e2,e3⟩:=yu (wd:=Yj) (k:=x.op.toNat-106) Y m C;refine⟨v,J,?_,e2,Y⟩;rw[fx ⟨Y,Y,Y⟩];unfold fE dO;rw[Va Y,Va Y,Va Y,Va Y,Va Y,Va Y,Va Y,Va Y,Va Y,Va Y,Va Y,Vi Y];simp_all[eH]
 .refine jS n hS j l d g (λa o m w=>?_);refine⟨_,?_,Fv (wd:=Yk) (k:=x.op.toNat-121) Y (a:=aU s) (by rw[o];exact m)⟩;unfold bZ gZ;have D:=m.any;rw[Va (λe=>Vh),Va Y,Vi Y,Va Y]
 .have i:Fr T fW p.lo p.res (st++[126]++[126]) s:=Ve
  refine qN i hS j l d g (λa b o G m C I=>?_);obtain⟨v,J,e1,e2,e3⟩:=yu (wd:=Yk) (k:=x.op.toNat-124) Y m C;refine⟨v,J,?_,e2,Y⟩;rw[fx ⟨Y,Y,Y⟩];unfold fE dO;rw[Va Y,Va Y,Va Y,Va Y,Va Y,Va Y,Va Y,Va Y,Va Y,Va Y,Va Y,Va Y,Vi Y];simp_all[eH]
 .have c:x.op.toNat=167:=Y
  refine jS n hS j l d g (λa o m w=>⟨eE Yj (aU s),?_,jx Yj _⟩);exact qO
 .rcases(by omega :x.op.toNat=172\/x.op.toNat=173)with c|c
  .refine jS n hS j l d g (λa o m w=>⟨IntKind.u64.wrap (bF Yj (aU s)),?_,?_⟩)
   .exact qO
   grind[IntKind.wrap_u64,fV]
  .obtain⟨F,v,u⟩:=n.fe;have K:=v.M1;have b:=Ta F;refine eI.on ?_ j l d g (by rw[<-b];exact u.put (fV K.1 Y)) hS U U U;simp_all[fx,fE,dO]
 .have c:x.op.toNat=224:=Y
  refine jS n hS j l d g (λa o m w=>⟨IntKind.u64.wrap ((look s.bG (wrap64 (aU s))).getD 0),?_,?_⟩)
  .rw[fx ⟨Y,Y,Y⟩];unfold fE fJ;grind
  grind[IntKind.wrap_u64,fV]
 .have c:x.op.toNat=225:=Y
  have i:Fr T fW p.lo p.res (st++[126]++[126]) s:=Ve
  obtain⟨F,v,b⟩:=i.fe;obtain⟨o,u,m⟩:=b.fe;have w:=abK s;have C:=hS.bG;have t:bZ f s x=fK s:=by
   have h:x.op=225:=Vp.1 c;obtain⟨_,_,_,_,_⟩:=x;cases h;rfl
  rw[t];unfold fK;rw[Va Y];split
  .exact eI.trap U Vb Vb U (Vk (eO _) (eO s))
  .rename_i h;refine eI.on U j l d Ve (m.same U U) ⟨hS.gl,hS.mem,?_⟩ rfl U U;show(lX _ _ _).length<=8
   unfold lX;split
   .grind
   .rename_i G;rw[Vn];simp only[Wi,Wp];have: ¬s.bG.length=8:=λe=>h ⟨Vh,e⟩
    omega
end
def mV(ao:List dQ):Prop:= ∀x∈ao,x.op=16->x.num<1000000
theorem mV.app{a:List dQ}(h:mV a){x:dQ}(d:x.op=16->x.num<1000000):mV (a++[x]):=λy b c=>by
 rcases VS.1 b with b|b
 .exact h y b c
 grind
theorem mV.UG(h:mV E.ao)(n:Nat):mV (dZ E n).ao:=λy c b=>by
 have a:=c;rcases VZ a with a|rfl
 .exact h y a b
 .by_cases c:n<E.ao.length
  .refine h (E.ao.getD n ⟨0,0,0,0,0⟩) ?_ b;grind
  grind
theorem mV.acF(l:List Nat):∀{s:Bd},mV s.ao->mV (cC l s).ao:=by
 induction l with
 |nil=>intro s h;exact h
 |cons a l ih=>intro s h;exact ih (h.UG a)
theorem mV.nK(h:mV E.ao)(a:UInt8)(k:Nat):mV (bu E a k).ao:=by
 unfold bu;split
 .exact h.app (λ_=>Vc)
 .exact h.app (λ_=>Vc)
def mV.xX(l:List Nat):∀{s:Bd},mV s.ao->mV (cx l s).ao:=by
 induction l with
 |nil=>intro s h;exact h
 |cons a l ih=>intro s h;exact ih (h.nK 12 a)
theorem Uf(h:cO E g=M e):e.ao=E.ao:=by rw[(im h).2.2]
theorem tka(h:cX E=M (g,e)):e.ao=E.ao:=by rw[(lx h).2.2]
def tkn(k:Nat):∀{s a:Bd},fh l k s=M a->a.ao=s.ao:=by
 induction k with
 |zero=>intro s a h;cases h;rfl
 |succ k ih=>
  grind[fh,Uf]
theorem tkl(h:bQ E l=M e):e.ao=E.ao:=tkn _ h
theorem tkc(h:dg E k=M e):e.ao=E.ao:=by
 unfold dg at h;rw[VX]at h;obtain⟨a,b,rfl⟩:=h;show a.ao=_
 grind[tkl]
theorem lbl(h:bf K E= Yn (k,e)):e.ao=E.ao:=by
 grind[bf]
def acJ(n:Nat):∀{s a:Bd} {l:List Nat},dN K n s= Yn (l,a)->a.ao=s.ao:=by
 induction n with
 |zero=>intro s a l h;cases h;rfl
 |succ n ih=>
  grind[dN,lbl]
def EU{s:Bd}(r:K.funcs.length<=1000000)(h:mV s.ao)(a:gV K g s= Yn E):mV E.ao:=by
 unfold gV at a;split at a
 .cases a;exact h.app (λe=>by cases e)
 split at a
 .rename_i q;unfold lQ at a;split at a
  .cases a
  split at a
  .cases a
  rename_i f b;split at a
  .cases a
  cases a;refine mV.app ?_ (λ_=>Vc);split at b
  .rw[Uf b];exact h
  grind
 split at a
 .unfold iC at a;split at a
  .cases a
  grind[mV.UG,mV.nK]
 split at a
 .unfold kQ at a;split at a
  .cases a
  grind[bo,mV.acF,mV.UG,mV.app]
 split at a
 .unfold iW at a;split at a
  .cases a
  rename_i k f i;split at a
  .cases a
  rename_i m c;split at a
  .cases a
  rename_i p d;cases a;have o:m.ao=s.ao:=by
   split at c
   .rw[Uf c,lbl i]
   grind[lbl]
  grind[mV.nK,tkc]
 split at a
 .unfold er at a;split at a
  .cases a
  split at a
  .cases a
  rename_i l f i;split at a
  .cases a
  rename_i m c;split at a
  .cases a
  rename_i p d;split at a
  .cases a;refine mV.xX l (mV.app ?_ (λe=>by cases e));rw[tkc d,Uf c,acJ _ i];exact h
  .cases a
 split at a
 .unfold mP at a;split at a
  .cases a
  grind[mV.nK,tkc]
 split at a
 .unfold py at a;split at a
  .cases a
  rename_i n j i;have k:=(cz i).1;split at a
  .cases a
  rename_i f b;cases a;refine mV.app ?_ (λ_=>Ve);rw[tkl b];exact h
 split at a
 .unfold pz at a;split at a
  .cases a
  rename_i b;cases a;refine mV.app ?_ (λe=>by cases e);grind[tka]
 split at a
 .unfold fI at a;split at a
  .cases a
  rename_i f b;split at a
  .cases a
  rename_i t m c;split at a
  .cases a
  rename_i p d;cases a;refine mV.app ?_ (λe=>by cases e);rw[Uf d,tka c,Uf b];exact h
 rename_i c _ _;split at a
 .rename_i q;unfold dn at a;split at a
  .cases a
  split at a
  .split at a
   .split at a
    .cases a
    rename_i f b;cases a;refine mV.app ?_ (λe=>absurd e c);rw[Uf b];exact h
   .cases a
  .cases a;exact h.app (λe=>absurd e c)
 .unfold eK at a;split at a
  .cases a
  split at a
  .cases a
  rename_i f b;cases a;have d:f.ao=s.ao:=by
   split at b
   .grind
   .exact(Uf b).trans U
  have o:∀m,mV (bo f ⟨g,m,0,0,0⟩).ao:=λm=>mV.app Ve (λe=>absurd e c)
  split
  .exact o _
  .exact o _
theorem Pr{s:Bd}(c:K.funcs.length<=1000000)(h:mV s.ao)(a:dK K s= Yn E):mV E.ao:=by
 unfold dK at a;split at a
 .cases a
 rename_i g j k;split at a
 .cases a
 rename_i r d;split at a
 .cases a
 split at a
 .exact EU (s:={s with pos:=s.i,i:=j}) c h a
 .rename_i l;unfold iZ at a;split at a
  .cases a
  split at a
  .cases a
  rename_i m b;cases a;refine mV.app ?_ (λe=>?_)
  .rw[tkl b];exact h
  .have f:=e;subst f;rw[show eu 16=M ⟨0x0b,0x10,4,[],[]⟩from U]at d;grind
def Ps(c:K.funcs.length<=1000000):∀(F:Nat) (s a:Bd),mV s.ao->gw K F s= Yn a->mV a.ao:=by
 intro F;induction F with
 |zero=>intro s a h b;cases b;exact h
 |succ F ih=>
  grind[gw,Pr]
def G6{D:List UInt8}{n:List Ty}{o:List (UInt8×Bool)}(p:n.length<=1000000):∀(l:List Ty) (b c:List dQ) (i g:Nat) (d:List vM),mV b->dq D n o l b i= Yn ((d,c),g)->mV c:=by
 intro l;induction l with
 |nil=>intro b c i g d h e;cases e;exact h
 |cons t l ih=>
  intro b c i g d h e;rw[dq]at e;split at e
  .cases e
  rename_i f k j a;have q:mV k:=by
   unfold nD at a;split at a
   .cases a
   split at a
   .cases a
   simp only at a;split at a
   .cases a
   split at a
   .cases a
   rename_i r m;cases a;exact Ps p _ _ _ h m
  grind
def Pu(h:iE l= Yn G):mV G.ao:=by
 unfold iE at h;split at h
 .cases h
 split at h
 .cases h
 split at h
 .cases h
 split at h
 .cases h
 rename_i d k b;split at h
 .cases h
 split at h
 .cases h
 split at h
 .cases h
 rename_i e f m c;split at h
 .cases h
 cases h;have g:d.length<=16:=by
  unfold pA at b;split at b
  .cases b
  .rename_i n j i;have o:=(cz i).1;obtain⟨a,-⟩:=ji (p:=λ_=>True) (λ_ _ _ _=>trivial) n _ _ _ b;omega
 exact G6 Y d [] _ _ _ _ (λx a=>by cases a) c
end
section
open Go.RowKit Go.MuLone
end
section
open Go.RowKit Go.MuLone
open Go.Maps (Keyed)
end
section
open Go.RowKit Go.MuLone
def BL{P:Prop}(h:P:=by
 go_wp2_with fail;refine HSt.out.bw ?_;rintro g c;rw[c];clear c g;go_wp2_with fail;refine(lock_free nR ⟨tb,0,H⟩ _ (hsc 0) (hsf 0)).bw ?_;rintro g c;rw[c];clear c g;obtain⟨o,d⟩:=bL (w'.setCell ⟨tb,0,H⟩ (V .i32 1));rw[<-d]at hi1 HS1 HFr KL aau⊢;clear d;obtain⟨m,-⟩:=ae hi1;clear hi1 hic hsc hsf;go_wp2_with fail;refine HFr.out.mono ?_;rintro r j⟨⟨rfl,i⟩,k⟩;have a:=k.az HS1.out id;go_wp2_with fail;refine leaves_cons (f:=48) (args:=#[Yv (M ⟨tb,0,H⟩)]) Vc (by simp[go_sem]) ?_;refine(unlock_deferred nR ⟨tb,0,H⟩ .returning _ ((ae a).1 0) ((ae a).2 0)).mono ?_;rintro r p q⟨rfl,rfl,rfl⟩;rw[aau]at i;have l:Kp (one tb) w' (j.setCell ⟨tb,0,H⟩ (V .i32 0)):=(KL.out.then k).bK 0 _;refine⟨_,results_tmp U _ _ _,⟨w'.heap.size,U,cQ,?_⟩,⟨heap_setCell a _,HS.out.map.kp l (HS.out.map.ne HS.out.az),HS.out.few⟩,l⟩;exact((Kp.refl (one tb) j).bK 0 _).own i (λb n (e:b=tb)=>cj (aK i b n))):P:=h
def Iw{w':Yw}{ib tb:Nat}{gv:Yx}{f:dH}{p:Option Nat}{d:List (Int×Int)}(h:eX w' S ib tb k v gv f l L)(j:dr w' tb p d):
  Yy prog 31 #[aj ib] w' λr a=>(∃b,r= Yq (Q (M ⟨b,0,H⟩) L.length L.length)/\w'.heap.size<=b/\a.ownsRow w'.heap.size 38 1 (Q (M ⟨b,0,H⟩) L.length L.length) L.length (ay L))/\dr a tb p d/\Kp (one tb) w' a:=by
 have n:=h.neI j;have a:=h.az;have c:=j.az;obtain⟨hic,-⟩:=ae a;obtain⟨hsc,hsf⟩:=ae c;have e:=mL a;have q:=au c;obtain⟨r,s,o,-⟩:=aw.aJ h.JC;subst o;have m:Kp (one tb) w' (w'.setCell ⟨tb,0,H⟩ (V .i32 1)):=(Kp.refl _ w').bK 0 _;have hi1:=m.az a n;have g:(w'.setCell ⟨tb,0,H⟩ (V .i32 1)).heap[tb]?=M (Yl #[V .i32 1,V .u32 0,.map p] 110):=heap_setCell c _;have i:=rM (aw.kp h.JC m (λb t=>(h.gvI b t).2)) (dX L) h.gn;have aau:(w'.setCell ⟨tb,0,H⟩ (V .i32 1)).heap.size=w'.heap.size:=by simp[World.setCell]
 have HSt:=Z e;have HS:=Z j;have HFr:=Z i;have KL:=Z m;have HS1:=Z g;clear h j e a c i m g;go_enter_defers func31,ntmps31;exact BL
def MN{w':Yw}{ib tb:Nat}{gv:Yx}{f:dH}{p:Option Nat}{d:List (Int×Int)}(h:eX w' S ib tb k v gv f l L)(j:dr w' tb p d):
  Yy prog 33 #[aj ib] w' λr a=>(∃b,r= Yq (Q (M ⟨b,0,H⟩) l.length l.length)/\w'.heap.size<=b/\a.ownsRow w'.heap.size 5 1 (Q (M ⟨b,0,H⟩) l.length l.length) l.length (aP l))/\dr a tb p d/\Kp (one tb) w' a:=by
 have n:=h.neI j;have a:=h.az;have c:=j.az;obtain⟨hic,-⟩:=ae a;obtain⟨hsc,hsf⟩:=ae c;have e:=mL a;have q:=au c;obtain⟨r,s,o,-⟩:=aw.aJ h.tU;subst o;have m:Kp (one tb) w' (w'.setCell ⟨tb,0,H⟩ (V .i32 1)):=(Kp.refl _ w').bK 0 _;have hi1:=m.az a n;have g:(w'.setCell ⟨tb,0,H⟩ (V .i32 1)).heap[tb]?=M (Yl #[V .i32 1,V .u32 0,.map p] 110):=heap_setCell c _;have i:=ob (aw.kp h.tU m (λb t=>(h.mvI b t).2)) (pX l) h.mn;have aau:(w'.setCell ⟨tb,0,H⟩ (V .i32 1)).heap.size=w'.heap.size:=by simp[World.setCell]
 have HSt:=Z e;have HS:=Z j;have HFr:=Z i;have KL:=Z m;have HS1:=Z g;clear h j e a c i m g;go_enter_defers func33,ntmps33;exact BL
end
section
open Go.RowKit Go.MuLone
open Go.Maps (Keyed)
def QM(k:Int)(a: -9223372036854775808<=k)(b:k<9223372036854775808):keyOf prog 2 (.int .i64 k)=some (.int .i64 k):=by
 have h:=PW k;grind[wrap64]
theorem TS{b:List (Int×Int)}(d:dr W a (some t) b)(k:Int)(C: -9223372036854775808<=k)(E:k<9223372036854775808):
  df 37 #[aj a,.int .i64 k] W (.tuple #[.int .i64 ((look b k).getD 0),.bool (look b k).isSome]) λc=>dr c a (some t) b/\Kp (one a) W c:=by
 have e:=d.az;obtain⟨m,o⟩:=ae e;have F:=au e;have p:=QM k C E;have s:Kp (one a) W (W.setCell ⟨a,0,none⟩ (.int .i32 1)):=(Kp.refl _ W).bK 0 _;have g:(W.setCell ⟨a,0,none⟩ (.int .i32 1)).heap[a]?=some (.cells #[.int .i32 1,.int .u32 0,.map (some t)] 110):=heap_setCell e _;have i:=d.map.kp s (d.map.ne d.az);have u:(W.setCell ⟨a,0,none⟩ (.int .i32 1)).heap.size=W.heap.size:=by simp[World.setCell]
 clear e;replace i:=Z i;change Hid _ at d s g p;go_enter_defers func37,ntmps37;go_wp2_with fail;refine(lock_free nR ⟨a,0,none⟩ _ (m 0) (o 0)).bw ?_;rintro G z;rw[z];clear z G;obtain⟨A,q⟩:=bL (W.setCell ⟨a,0,none⟩ (.int .i32 1));rw[<-q]at g i s u⊢;clear q;obtain⟨v,w⟩:=ae g;obtain⟨D,n,l,J,j⟩:fk A t b:=by
  rcases i.out with⟨h,-⟩|⟨r,c,h⟩
  .cases h
  .cases c;exact h
 clear m o;replace j:=Z j;replace l:=Z l;go_wp2_with(at_lookup;refine wpList_lookup_own_ok_int _ U _ _ 108 U 2 2 .i64 gf underlying108 underlying2 (ve _) t n D U l _ _ U p ?_);intro c h I;have x:c=(look b k).getD 0:=by
  have:=((j).2 k).2;rw[h]at this;change _=DataW.lit (Lit.int .i64 ((look b k).getD 0))at this;simpa using this
 have y:=((j).2 k).1;go_wp2_with fail;refine leaves_cons (f:=48) (args:=#[.pointer (some ⟨a,0,none⟩)]) Vc (by simp[go_sem]) ?_;refine(unlock_deferred nR ⟨a,0,none⟩ .returning _ (v 0) (w 0)).mono ?_;rintro r K L⟨rfl,rfl,rfl⟩;have B:Kp (one a) W (A.setCell ⟨a,0,none⟩ (.int .i32 0)):=s.bK 0 _;refine⟨_,results_tmp2 U _ _ _,?_,⟨heap_setCell g _,d.map.kp B (d.map.ne d.az),d.few⟩,B⟩;rw[<-x,<-y];rfl
end
section
open Go.RowKit Go.MuLone Go.Maps Go.Shelf
shelf_lay_g SlLaysZI.n7 Ggz 7 at Tryz 56 as Dr
shelf_lay_g SlLaysZI.n6 Ggz 6 at Tryz 55 as BM
shelf_lay_g SlLaysM.n5 Slgm 5 at Tryz 83 as JO
def BN(m:Nat):AnyZI.SortsIn prog BM_ren Fence.wide m:=
 ⟨λaz b a e W f c d=>callsIn_wide.2 (AnyM.slices_Sort_int JO az b a e W f c d),
  λp a W=>callsIn_wide.2 (AnyM.slices_Sort_int_none JO p a W)⟩
def QN(a:Option Nat)(W:Yw):df 56 #[.map a] W (.func (.func 84) #[] #[Yv (M ⟨W.heap.size,0,H⟩)]) λb=>b=W.alloc (Yl #[.map a] 108):=
 callsIn_wide.1 (AnyZI.keys_in Dr Fence.wide 5 trivial U a W)
def BO{P:Prop}(h:P:=by
 change CallsIn _ _ prog 55 _ _ _ at cS;refine(callsIn_wide.1 cS).mono ?_;rintro e d⟨v,b,rfl,hS,a,-,c⟩;exact⟨v,b,U,hS,jw a Vc,((Kp.refl no w).alloc _).trans (Kp.Cm c)⟩):P:=h
def Iy(b g:Nat)(a:DataW Unit)(w:Yw)(c:w.ownsMap prog 2 (plainElem prog 2) b g a)(h:Maps.size a<=1000):
  Yy prog 55 #[.func (.func 84) #[] #[Yv (M ⟨w.heap.size,0,H⟩)]] (w.alloc (Yl #[.map (M b)] 108)) λe f=> ∃(v:Yx) (d:List Int),e= Yq v/\d.Perm (intKeys a)/\
   f.ownsRow w.heap.size 2 1 v d.length ((d.mergeSort (λx y=>decide (x<=y))).map encZ)/\Kp no w f:=by
 have e:=c.lt;have f:SeqGives Fence.wide 2 prog 84 #[Yv (M ⟨w.heap.size,0,H⟩)] encZ (λd=>d.Perm (intKeys a)) (Maps.size a) (w.alloc (Yl #[.map (M b)] 108)):=
  AnyZI.keys_gives (ρ:=Dr_ren) {Dr with} Fence.wide _ trivial U Y w.heap.size b g a _ Vc Vc (by
   obtain⟨i,d,j,Ft,k,l⟩:=c;exact⟨i,d,(Below.heap_alloc _ _ b e).trans j,Ft,k,l⟩)
 have cS:=AnyZI.sorted_in BM Fence.wide 5 trivial trivial trivial trivial U Y (BN _) (enters_of func83 Vf U) 84 #[Yv (M ⟨w.heap.size,0,H⟩)] trivial (enters_of func84 Vf U) _ _ (by grind[maxLen]) Y _ f;exact BO
def yH(w:Yw):
  Yy prog 55 #[.func (.func 84) #[] #[Yv (M ⟨w.heap.size,0,H⟩)]] (w.alloc (Yl #[.map H] 108)) λe c=> ∃(v:Yx) (a:List Int),e= Yq v/\a=[]/\
   c.ownsRow w.heap.size 2 1 v a.length ((a.mergeSort (λx y=>decide (x<=y))).map encZ)/\Kp no w c:=by
 have b:SeqGives Fence.wide 2 prog 84 #[Yv (M ⟨w.heap.size,0,H⟩)] encZ (λa:List Int=>a=[]) 0 (w.alloc (Yl #[.map H] 108)):=
  AnyZI.keys_gives_nil (ρ:=Dr_ren) {Dr with} Fence.wide _ trivial U w.heap.size _ Vc Vc
 have cS:=AnyZI.sorted_in BM Fence.wide 5 trivial trivial trivial trivial U Y (BN _) (enters_of func83 Vf U) 84 #[Yv (M ⟨w.heap.size,0,H⟩)] trivial (enters_of func84 Vf U) _ 0 (VB _) Y _ b;exact BO
def zw{D:DataW Unit}{m:List (Int×Int)}(b:W.ownsMap prog 2 (plainElem prog 2) k a D)(e:LF D m):
  (intKeys D).length=m.length/\(intKeys D).Nodup/\ ∀x,x∈intKeys D↔(look m x).isSome=true:=by
 obtain⟨f,h,i,_⟩:=b.entries gf;obtain⟨c,j,d⟩:=b.keysOf;obtain rfl :f=c:=Ve
 subst h;have l:∀p∈f,∃x,p.1=.int .i64 x:=λp g=>by obtain⟨v,n⟩:=d p g;grind[underlying2,keyOf_i64]
 refine⟨?_,?_,λx=>?_⟩
 .have :=e.1;grind[intKeys,Maps.size]
 .grind[intKeys,List.Pairwise.imp_of_mem,Go.intOf]
 .rw[<-(e.2 x).1,Maps.has_eq,XE];unfold intKeys;rw[Xc];constructor
  .rintro⟨p,g,rfl⟩;grind[Go.intOf,Lit.sameKey]
  grind[Go.intOf,Lit.sameKey]
structure qX(l:List Int)(m:List (Int×Int)):Prop where
 len:l.length=m.length
 asc:l.Pairwise (· < ·)
 mem:∀x,x∈l↔(look m x).isSome=Yk
theorem qX.of{ks:List Int}{m:List (Int×Int)}(e:L.Perm ks)(h:ks.length=m.length/\ks.Nodup/\ ∀x,x∈ks↔(look m x).isSome=Yk):qX (L.mergeSort (λx y=>decide (x<=y))) m:=by
 have d:(L.mergeSort (λx y=>decide (x<=y))).Perm ks:=(List.mergeSort_perm L _).trans e;refine⟨d.length_eq.trans h.1,?_,λx=>(d.mem_iff).trans (h.2.2 x)⟩;have f:(L.mergeSort (λx y=>decide (x<=y))).Pairwise (λa b=>decide (a<=b)=Yk):=List.pairwise_mergeSort (λa b c=>Vd) (λa b=>Vd) L;have a:=List.nodup_iff_pairwise_ne.1 (d.nodup_iff.2 h.2.1);exact(List.Pairwise.and f a).imp (λh=>Ve)
def QO{p:Option Nat}{g:List (Int×Int)}(d:dr W k p g):
  Yy prog 38 #[aj k] W λr m=>(∃v l,r= Yq v/\qX l g/\m.ownsRow W.heap.size 2 1 v l.length (l.map encZ))/\dr m k p g/\Kp (one k) W m:=by
 have h:=d.az;obtain⟨q,s⟩:=ae h;have G:=au h;have z:Kp (one k) W (W.setCell ⟨k,0,H⟩ (V .i32 1)):=(Kp.refl _ W).bK 0 _;have c:(W.setCell ⟨k,0,H⟩ (V .i32 1)).heap[k]?=M (Yl #[V .i32 1,V .u32 0,.map p] 110):=heap_setCell h _;have i:=d.map.kp z (d.map.ne d.az);have t:(W.setCell ⟨k,0,H⟩ (V .i32 1)).heap.size=W.heap.size:=by simp[World.setCell]
 clear h;replace i:=Z i;change Hid _ at d z c;go_enter_defers func38,ntmps38;go_wp2_with fail;refine(lock_free nR ⟨k,0,H⟩ _ (q 0) (s 0)).bw ?_;rintro I F;rw[F];clear F I;obtain⟨o,u⟩:=bL (W.setCell ⟨k,0,H⟩ (V .i32 1));rw[<-u]at c i z t⊢;clear u;obtain⟨B,C⟩:=ae c;have A:Yy prog 55 #[.func (.func 84) #[] #[Yv (M ⟨o.heap.size,0,H⟩)]] (o.alloc (Yl #[.map p] 108)) λe m=> ∃(v:Yx) (l:List Int),e= Yq v/\qX l g/\m.ownsRow o.heap.size 2 1 v l.length (l.map encZ)/\Kp no o m:=by
  rcases i.out with⟨rfl,rfl⟩|⟨b,rfl,D,n,w,L,y⟩
  .refine(yH o).mono ?_;rintro e m⟨v,J,rfl,rfl,a,E⟩;exact⟨v,[],U,⟨U,.nil,λx=>by simp[look]⟩,by simpa using a,E⟩
  .have x:Maps.size D<=1000:=by rw[y.1];exact d.few
   refine(Iy b n D o w x).mono ?_;rintro e m⟨v,J,rfl,K,a,E⟩;have j:=qX.of K (zw w y);refine⟨v,_,U,j,?_,E⟩;rw[List.length_mergeSort];exact a
 rw[t]at A;clear q s;replace A:=Z A;go_wp2_with fail;refine(QN _ _).cJ ?_;go_wp2_with fail;refine A.mono ?_;rintro r y⟨v,l,rfl,j,a,m⟩;obtain⟨n,w⟩:=ae (m.az c id);have x:=Z (m.az c id);clear B C;change Hid _ at m;replace a:=Z a;change Hid _ at j;go_wp2_with fail;refine leaves_cons (f:=48) (args:=#[Yv (M ⟨k,0,H⟩)]) Vc (by simp[go_sem]) ?_;refine(unlock_deferred nR ⟨k,0,H⟩ .returning _ (n 0) (w 0)).mono ?_;rintro r J K⟨rfl,rfl,rfl⟩;have D:Kp (one k) W (y.setCell ⟨k,0,H⟩ (V .i32 0)):=(z.trans m.any).bK 0 _;refine⟨_,results_tmp U _ _ _,⟨v,l,U,j,?_⟩,⟨heap_setCell x _,d.map.kp D (d.map.ne d.az),d.few⟩,D⟩;have:=a.out;refine((Kp.refl (one k) y).bK 0 (V .i32 0)).own this (λb E e=>?_);have L:=(World.ownsRow.lt this b E).1;have N:b=k:=e;omega
end
section
open Go.ChangeShapes Go.WideShapes Go.ChangeAt Go.RowKit
def QS:(Rows.laid_math_bits_deBruijn64tab:DataW Unit)=.agg (Lib.deBruijn64tab.map λ(n:Nat)=>.lit (.int .u8 (n:Int))):=Vg
def ado:Tryz.prog.globalNamed "math/bits.deBruijn64tab" =M 2:=Vf
def QT:(Tryz.prog.globals[2]?).map (·.type)=M 353:=Vf
def FQ{a:List (String×DataW Unit)}(l:(a.all λx=>x.2.handleName?.isNone)=true)(m:("math/bits.deBruijn64tab",Rows.laid_math_bits_deBruijn64tab)∈a)(h:laidMetH prog a W):nz W:=by
 rw[MakeChecks.laidMetH_plain _ _ _ l]at h;obtain⟨y,o,-⟩:=h;obtain⟨g,t,q,aC,p,e,r,b,f⟩:=si o _ _ m;obtain rfl :=Vr (ado.symm.trans e);obtain rfl :=Vr (QT.symm.trans r);rw[QS]at f;obtain⟨s,n,-,A,-,u,c⟩:=DataW.trod_array underlying353 f;have d:s.map (·.1)=Lib.deBruijn64tab.map λ(n:Nat)=>(.lit (.int .u8 (n:Int)):DataW Unit):=by
  grind
 intro j i;have k:=c j i;rw[Dp,Xh,Vj Y]at k;obtain⟨z,v,B,-⟩:=DataW.trod_int underlying5 k;have w:z=((Lib.deBruijn64tab.getD j 0:Nat):Int):=by
  have x:j<Lib.deBruijn64tab.length:=i;have:=Vy (·[j]?) d;grind
 rw[World.var?_cell e b j,<-WU];have:q.toList[j]?=some (.int .u8 z):=by
  have x:=Vy (·[0]?) v;grind
 rw[this,w]
end
end Go.Proofs.YtdeplgkhmebalaaGreatDoor
