/- How many functions a module has; lists that are copied: the call. -/
import Derived.Test.YtdeplgkhmebalaaGreatDoorP16
import Derived.Test.YtdeplgkhmebalaaGreatDoorP31
import Derived.Test.YtdeplgkhmebalaaGreatDoorP12
import Derived.Test.YtdeplgkhmebalaaGreatDoorP33
import Derived.Test.YtdeplgkhmebalaaGreatDoorP34

set_option linter.unusedSimpArgs false
set_option linter.unusedVariables false
namespace Go.Proofs.YtdeplgkhmebalaaGreatDoor
open Go.RowKit

theorem enters_freshB: ∀args w,(callFunc 53 args).run Tryz.prog w= .ok (.enter 53 args) w:=enters_of Tryz.func53 (by kernel_rfl) rfl
theorem own_le {w:World} {base base' size n:Nat} {e:TypeId} {v:Value} {xs:List Value} (h:w.ownsRow base e size v n xs) (hb:base'≤base):w.ownsRow base' e size v n xs:=
 ⟨h.1,h.2.elim Or.inl (fun⟨g,cap,cur,hv,hg,r⟩=>Or.inr ⟨g,cap,cur,hv,Nat.le_trans hb hg,r⟩)⟩
theorem funcs_any {w:World} {ro:Nat→Prop} {mb:Nat} {f:Flat} (h:ModAt w ro mb 123 f):
  Calls Tryz.prog 40 #[ptrTo mb] w fun r w'=>r= .returned (.int .i64 f.funcs.length)∧w'=w:=by
 obtain⟨fv,gv,cv,hg⟩:=h
 obtain⟨ad,cap,rfl,hcap,-⟩:=hg.funcs
 obtain⟨hc,-⟩:=cells_of hg.blk
 clear hg
 go_enter Tryz.func40,Tryz.ntmps40
 go_wp2
 go_ret
 exact⟨rfl,rfl⟩
end Go.Proofs.YtdeplgkhmebalaaGreatDoor

set_option linter.unusedSimpArgs false
set_option linter.unusedVariables false
set_option maxHeartbeats 2000000
set_option maxRecDepth 100000
namespace Go.Proofs.YtdeplgkhmebalaaGreatDoor
open Go.RowKit

structure TypeTold (w w':World) (r:Ending) (ps rs:List UInt8):Prop where
 ex: ∃g1 g2,r= .returned (.tuple #[.slice (some ⟨g1,0,none⟩) ps.length ps.length,.slice (some ⟨g2,0,none⟩) rs.length rs.length,.int .i64 0])∧w.heap.size≤g1∧g1<g2∧NB w w' (.slice (some ⟨g1,0,none⟩) ps.length ps.length) ps∧NB w w' (.slice (some ⟨g2,0,none⟩) rs.length rs.length) rs

theorem type_any {w:World} {ro:Nat→Prop} {mb:Nat} {f:Flat} {n:Nat} (h:ModAt w ro mb 123 f) (hn:n<f.funcs.length) (_hnf:f.funcs.length≤1000) (hp:(f.funcs.getD n fn0).typ.1.length≤1000) (hr:(f.funcs.getD n fn0).typ.2.length≤1000):
  Calls Tryz.prog 41 #[ptrTo mb,.int .i64 n] w fun r w'=>TypeTold w w' r (f.funcs.getD n fn0).typ.1 (f.funcs.getD n fn0).typ.2∧Kp no w w':=by
 have hfn:=funcs_any h
 obtain⟨fv,gv,cv,hg⟩:=h
 obtain⟨ad,cap,rfl,hcap,hk⟩:=hg.funcs
 obtain⟨hc,-⟩:=cells_of hg.blk
 obtain⟨a,o,pv,rv,rfl,-,c0,c1,-,-,hb,-,hb2,-⟩:=hk n hn
 obtain⟨adp,capp,rfl,hcp⟩:=RowAt.shape hb
 obtain⟨adr,capr,rfl,hcr⟩:=RowAt.shape hb2
 generalize(f.funcs.getD n fn0).typ.1=ps at *
 generalize(f.funcs.getD n fn0).typ.2=rs at *
 have HFn:=hide hfn
 have HB:=hide hb
 have HB2:=hide hb2
 clear hfn hk hb hb2 hg
 go_enter Tryz.func41,Tryz.ntmps41
 go_wp2_with fail
 refine HFn.out.mono ?_
 rintro r w1 ⟨rfl,hw⟩
 rw[hw]
 clear hw w1 HFn
 go_wp2_with fail
 obtain⟨W1,hW1⟩: ∃W1,w.alloc (.cells #[.slice adp ps.length capp,.slice adr rs.length capr] 138)=W1:=⟨_,rfl⟩
 have hblk:W1.heap[w.heap.size]? =some (.cells #[.slice adp ps.length capp,.slice adr rs.length capr] 138):=by rw[←hW1];exact heap_alloc_new _ _
 have k1:Kp no w W1:=by rw[←hW1];exact(Kp.refl _ _).alloc _
 rw[hW1]
 obtain⟨S,hSd⟩: ∃S:World→Prop,S=fun w'=> ∀q,w'.cell? ⟨w.heap.size,q,none⟩= #[.slice adp ps.length capp,.slice adr rs.length capr][q]? :=⟨_,rfl⟩
 have hSk: ∀W',Kp no W1 W'→S W':=fun W' k=>by rw[hSd];exact(cells_of (k.blk hblk (fun h=>h))).1
 have HSk:=hide hSk
 have K1:=hide k1
 have HSd:=hide hSd
 clear hSk hSd hblk k1 hW1 hc c0 c1
 refine wp_region_S 9 (S) (by kernel_rfl) (n:=9) rfl rfl ?hS (fun hS=> ?_)
 case hS=>exact HSk.out _ ((Kp.refl _ _).drew)
 have hSd:=HSd.out
 subst hSd
 refine tk 0 [] rfl (by kernel_rfl) rfl (fun _ _ _ h=>h) hS (fun _ h=>by(try dsimp only at h);go_simp;all_goals with_reducible rfl) ?_
 simp only[pS]
 refine tk 1 [] rfl (by kernel_rfl) rfl (fun _ _ _ h=>h) hS (fun _ h=>by(try dsimp only at h);go_simp;all_goals with_reducible rfl) ?_
 simp only[pS]
 refine tk 3 [] rfl (by kernel_rfl) rfl (fun _ _ _ h=>h) hS (fun _ h=>by(try dsimp only at h);go_simp;all_goals with_reducible rfl) ?_
 simp only[pS]
 refine tk 4 [] rfl (by kernel_rfl) rfl (fun _ _ _ h=>h) hS (fun _ h=>by(try dsimp only at h);go_simp;all_goals with_reducible rfl) ?_
 simp only[pS]
 refine wpAnyS_one 2 rfl (by kernel_rfl) rfl (fun K hK=> ?_)
 have hB:=freshB_any (w:=W1.drew) (RowAt.kp HB.out (K1.out.drew) (fun _ _ h=>h)) (bytes_oneCell ps) (by omega)
 refine step_call (by rfl) 53 _ _ (by rfl) enters_freshB _ (by rfl) hB ?_
 rintro r w2 ⟨⟨rfl,ho2⟩,k2⟩
 have k2':Kp no W1 w2:=((Kp.refl no W1).drew).trans k2
 refine⟨_,rfl,hK _ _ (HSk.out _ k2') (fun hS=> ?_)⟩
 clear hK K hB
 simp only[Act.put,List.setIfInBounds_toArray,List.set_cons_zero,List.set_cons_succ]
 refine wpAnyS_one 5 rfl (by kernel_rfl) rfl (fun K hK=> ?_)
 have hB:=freshB_any (w:=w2) (RowAt.kp HB2.out (K1.out.trans k2') (fun _ _ h=>h)) (bytes_oneCell rs) (by omega)
 refine step_call (by rfl) 53 _ _ (by rfl) enters_freshB _ (by rfl) hB ?_
 rintro r w3 ⟨⟨rfl,ho3⟩,k3⟩
 refine⟨_,rfl,hK _ _ (HSk.out _ (k2'.trans k3)) (fun hS=> ?_)⟩
 clear hK K hB
 simp only[Act.put,List.setIfInBounds_toArray,List.set_cons_zero,List.set_cons_succ]
 refine tk 6 [] rfl (by kernel_rfl) rfl (fun _ _ _ h=>h) hS (fun _ h=>by(try dsimp only at h);go_simp;all_goals with_reducible rfl) ?_
 simp only[pS]
 refine tk 7 [] rfl (by kernel_rfl) rfl (fun _ _ _ h=>h) hS (fun _ h=>by(try dsimp only at h);go_simp;all_goals with_reducible rfl) ?_
 simp only[pS]
 refine tk 8 [] rfl (by kernel_rfl) rfl (fun _ _ _ h=>h) hS (fun _ h=>by(try dsimp only at h);go_simp;all_goals with_reducible rfl) ?_
 simp only[pS]
 refine wpAnyS_done (by kernel_rfl) ?_ _
 clear hS
 have hl2:=own_lt ho2 rfl
 have h12:=k2'.size
 have h0:=K1.out.size
 have hx2:=hide (own_le (k3.own ho2 (fun _ _ h=>h)) (show w.heap.size≤W1.drew.heap.size from h0))
 have hx3:=hide (own_le ho3 (Nat.le_trans h0 h12))
 have KF:=hide (K1.out.trans (k2'.trans k3))
 clear ho2 ho3 k2 k2' k3
 go_wp2
 go_ret3
 exact⟨⟨_,_,rfl,h0,hl2,hx2.out,hx3.out⟩,KF.out⟩
end Go.Proofs.YtdeplgkhmebalaaGreatDoor

set_option linter.unusedSimpArgs false
set_option linter.unusedVariables false
namespace Go.Proofs.YtdeplgkhmebalaaGreatDoor
open Go.RowKit

theorem CodeAt.le' {w:World} {ro ro':Nat→Prop} {v:Value} {cs:List Ins} (h:CodeAt w ro v cs) (hr: ∀b,ro b→ro' b):CodeAt w ro' v cs:=by
 obtain⟨ad,cap,hv,hc,hk⟩:=h
 refine⟨ad,cap,hv,hc,fun j hj=> ?_⟩
 obtain⟨a,o,q1,q2,q3⟩:=hk j hj
 exact⟨a,o,q1,hr a q2,q3⟩
theorem ModAt.le' {w:World} {ro ro':Nat→Prop} {fb:Nat} {t:TypeId} {f:Flat} (h:ModAt w ro fb t f) (hr: ∀b,ro b→ro' b):ModAt w ro' fb t f:=by
 obtain⟨fv,gv,cv,h⟩:=h
 exact⟨fv,gv,cv,h.blk,hr _ h.own,h.funcs.le hr,h.vals,h.valsR.le hr,h.code.le' hr⟩

def YAt (w:World) (ro:Nat→Prop) (yb:Nat) (fs:List Ty):Prop:=
 ∃tv fv gv pages cells,w.heap[yb]? =some (.cells #[tv,fv,gv,.int .i64 pages] 149)∧ro yb∧RoV ro fv∧RowAt w fv 4 fs.length cells∧
  ∀(k:Nat) (x:Ty),fs[k]? =some x→ ∃pv rv,cells[k*4]? =some pv∧cells[k*4+1]? =some rv∧BytesAt w pv x.1∧RoV ro pv∧BytesAt w rv x.2∧RoV ro rv
theorem YAt.kp {w w':World} {ro:Nat→Prop} {yb:Nat} {fs:List Ty} (h:YAt w ro yb fs) (k:Kp (nro ro) w w'):YAt w' ro yb fs:=by
 obtain⟨tv,fv,gv,pages,cells,h1,h2,h3,h4,h5⟩:=h
 refine⟨tv,fv,gv,pages,cells,k.blk h1 (fun hn=>hn h2),h2,h3,h4.ro h3 k,fun j x hj=> ?_⟩
 obtain⟨pv,rv,q1,q2,q3,q4,q5,q6⟩:=h5 j x hj
 exact⟨pv,rv,q1,q2,RowAt.ro q3 q4 k,q4,RowAt.ro q5 q6 k,q6⟩
theorem YAt.le {w:World} {ro ro':Nat→Prop} {yb:Nat} {fs:List Ty} (h:YAt w ro yb fs) (hr: ∀b,ro b→ro' b):YAt w ro' yb fs:=by
 obtain⟨tv,fv,gv,pages,cells,h1,h2,h3,h4,h5⟩:=h
 refine⟨tv,fv,gv,pages,cells,h1,hr _ h2,h3.le hr,h4,fun j x hj=> ?_⟩
 obtain⟨pv,rv,q1,q2,q3,q4,q5,q6⟩:=h5 j x hj
 exact⟨pv,rv,q1,q2,q3,q4.le hr,q5,q6.le hr⟩
theorem YAt.read {w w':World} {pb mb base:Nat} {tv fv gv:Value} {pages:Int} {fs:List Ty} {gs:List (UInt8×UInt8×Nat)} (h:Rf.ModAt w' pb mb base tv fv gv pages fs gs) (h1:w.heap.size≤mb) (h2:w.heap.size≤base):YAt w' (fun b=>w.heap.size≤b∧b<w'.heap.size) mb fs:=by
 obtain⟨cells,ho,hc⟩:=h.fown
 refine⟨tv,fv,gv,pages,cells,h.blk,⟨h1,lt_of_blk h.blk⟩,fun b hb=>by have :=ho.lt b hb;omega,RowAt.own ho,fun k x hk=> ?_⟩
 obtain⟨pv,rv,q1,q2,q3,-,q5,-,-,q8⟩:=hc k x hk
 exact⟨pv,rv,q1,q2,q3,fun b hb=>by have :=q8 b (.inl hb);omega,q5,fun b hb=>by have :=q8 b (.inr hb);omega⟩

structure Md where
 x:Nat
 y:Nat
 f:Flat
def RO (w:World) (X:Nat→Prop) (wb:Nat) (mv bv:Value):Nat→Prop:=fun b=>b<w.heap.size∧b≠wb∧mv.ownBlock≠some b∧bv.ownBlock≠some b∧ ¬X b
def Ls (w:World) (ro:Nat→Prop) (v:Value) (m:UInt8):Prop:= ∃n,n≤1000∧BytesAt w v (List.replicate n m)∧RoV ro v
def MRow (w:World) (ro:Nat→Prop) (mods:List Md) (cells:List Value):Prop:=
 ∀(k:Nat) (x:Md),mods[k]? =some x→cells[k*2]? =some (ptrTo x.x)∧cells[k*2+1]? =some (ptrTo x.y)∧ModAt w ro x.x 123 x.f∧YAt w ro x.y (x.f.funcs.map (·.typ))
def BRow (w:World) (ro:Nat→Prop) (cnt:Nat) (cells:List Value):Prop:=
 ∀(k:Nat),k<cnt→ ∃(l a b c:Value) (m:UInt8),cells[k*5]? =some l∧cells[k*5+1]? =some a∧cells[k*5+2]? =some b∧cells[k*5+3]? =some c∧cells[k*5+4]? =some (.int .u8 m.toNat)∧Ls w ro l m∧Ls w ro a m∧Ls w ro b m∧Ls w ro c m
structure MdOk (x:Md):Prop where
 n:x.f.funcs.length≤16
 l: ∀t∈x.f.funcs.map (·.typ),t.1.length≤8∧t.2.length≤1

structure LwSt (w:World) (X:Nat→Prop) (wb:Nat) (n:Int) (mv bv:Value) (mods:List Md) (cnt:Nat):Prop where
 blk:w.heap[wb]? =some (.cells #[mv,.slice none 0 0,.slice none 0 0,.int .i64 n,bv,.slice none 0 0,.slice none 0 0,.bool false] 90)
 tab:RowsAt w (RO w X wb mv bv)
 mown: ∃cells,w.ownsRow (wb+1) 144 2 mv mods.length cells∧MRow w (RO w X wb mv bv) mods cells
 mok: ∀x∈mods,MdOk x
 ml:mods.length≤4
 bown: ∃cells,w.ownsRow (wb+1) 158 5 bv cnt cells∧BRow w (RO w X wb mv bv) cnt cells
 dis: ∀b,mv.ownBlock=some b→bv.ownBlock≠some b
 n0: -9223372036854775808≤n∧n≤9223372036854775807

def Mv (w:World) (v v':Value):Prop:=v'.ownBlock=v.ownBlock∨ ∃b,v'.ownBlock=some b∧w.heap.size≤b
theorem Mv.refl (w:World) (v:Value):Mv w v v:= .inl rfl
theorem Mv.ne {w:World} {v v':Value} (h:Mv w v v') {b:Nat} (hb:b<w.heap.size) (hn:v.ownBlock≠some b):v'.ownBlock≠some b:=by
 intro e
 rcases h with hx|⟨c,hc,hlt⟩
 ·exact hn (hx▸e)
 ·rw[hc]at e;cases e;omega
theorem RO.on {w w':World} {X X':Nat→Prop} {wb:Nat} {mv bv mv' bv':Value} (hz:w.heap.size≤w'.heap.size) (hm:Mv w mv mv') (hb:Mv w bv bv') (hX: ∀b,X' b→X b∨w.heap.size≤b): ∀b,RO w X wb mv bv b→RO w' X' wb mv' bv' b:=by
 rintro b ⟨h1,h2,h3,h4,h5⟩
 exact⟨by omega,h2,hm.ne h1 h3,hb.ne h1 h4,fun hx=>by rcases hX b hx with h|h;exact h5 h;omega⟩
section
variable{w w':World} {ro ro':Nat→Prop} (k:Kp (nro ro) w w') (hr: ∀b,ro b→ro' b)
include k hr
theorem Ls.on {v:Value} {m:UInt8} (h:Ls w ro v m):Ls w' ro' v m:=by
 obtain⟨n,h1,h2,h3⟩:=h
 exact⟨n,h1,RowAt.ro h2 h3 k,h3.le hr⟩
theorem MRow.on {mods:List Md} {cells:List Value} (h:MRow w ro mods cells):MRow w' ro' mods cells:=fun j x hj=>by
 obtain⟨h1,h2,h3,h4⟩:=h j x hj
 exact⟨h1,h2,(h3.kp k).le' hr,(h4.kp k).le hr⟩
theorem BRow.on {cnt:Nat} {cells:List Value} (h:BRow w ro cnt cells):BRow w' ro' cnt cells:=fun j hj=>by
 obtain⟨l,a,b,c,m,h1,h2,h3,h4,h5,h6,h7,h8,h9⟩:=h j hj
 exact⟨l,a,b,c,m,h1,h2,h3,h4,h5,h6.on k hr,h7.on k hr,h8.on k hr,h9.on k hr⟩
theorem RowsAt.on (h:RowsAt w ro):RowsAt w' ro':=by
 obtain⟨a,o,cap,h1,h2,h3,h4,h5⟩:=RowsAt.kp h k
 exact⟨a,o,cap,h1,h2,hr _ h3,hr _ h4,h5⟩
end
theorem LwSt.kp {w w':World} {X X':Nat→Prop} {wb:Nat} {n:Int} {mv bv:Value} {mods:List Md} {cnt:Nat} (h:LwSt w X wb n mv bv mods cnt) (k:Kp no w w') (hX: ∀b,X' b→X b∨w.heap.size≤b):LwSt w' X' wb n mv bv mods cnt:=by
 have k':Kp (nro (RO w X wb mv bv)) w w':=k.any
 have hr:=RO.on (wb:=wb) (mv:=mv) (bv:=bv) k.size (.inl rfl) (.inl rfl) hX
 obtain⟨c1,o1,r1⟩:=h.mown
 obtain⟨c2,o2,r2⟩:=h.bown
 exact⟨k.blk h.blk (fun h=>h),h.tab.on k' hr,⟨c1,k.own o1 (fun _ _ h=>h),r1.on k' hr⟩,h.mok,h.ml,⟨c2,k.own o2 (fun _ _ h=>h),r2.on k' hr⟩,h.dis,h.n0⟩
theorem LwSt.rowsOk {w:World} {X:Nat→Prop} {wb:Nat} {n:Int} {mv bv:Value} {mods:List Md} {cnt:Nat} (h:LwSt w X wb n mv bv mods cnt):RowsOk w:=by
 obtain⟨a,o,cap,h1,h2,h3,h4,h5⟩:=h.tab
 exact⟨a,o,cap,h1,h2,h3.1,h4.1,h5⟩
theorem BRow.snoc {w:World} {ro:Nat→Prop} {cnt:Nat} {cells:List Value} {l a b c:Value} {m:UInt8} (h:BRow w ro cnt cells) (hl:cells.length=cnt*5) (h6:Ls w ro l m) (h7:Ls w ro a m) (h8:Ls w ro b m) (h9:Ls w ro c m):BRow w ro (cnt+1) (cells++[l,a,b,c,.int .u8 m.toNat]):=by
 intro j hj
 rcases Nat.lt_or_ge j cnt with hlt|hge
 ·obtain⟨l',a',b',c',m',q1,q2,q3,q4,q5,q6⟩:=h j hlt
  have aux: ∀{q:Nat} {x:Value},cells[q]? =some x→(cells++[l,a,b,c,.int .u8 m.toNat])[q]? =some x:=fun hq=>by
   obtain⟨z,-⟩:=List.getElem?_eq_some_iff.1 hq
   rw[List.getElem?_append_left z];exact hq
  exact⟨l',a',b',c',m',aux q1,aux q2,aux q3,aux q4,aux q5,q6⟩
 ·obtain rfl :j=cnt:=by omega
  have aux: ∀q,q<5→(cells++[l,a,b,c,.int .u8 m.toNat])[j*5+q]? =[l,a,b,c,.int .u8 m.toNat][q]? :=fun q hq=>by
   rw[List.getElem?_append_right (by omega),show j*5+q -cells.length=q by omega]
  exact⟨l,a,b,c,m,aux 0 (by omega),aux 1 (by omega),aux 2 (by omega),aux 3 (by omega),aux 4 (by omega),h6,h7,h8,h9⟩
end Go.Proofs.YtdeplgkhmebalaaGreatDoor

set_option linter.unusedSimpArgs false
set_option linter.unusedVariables false
namespace Go.Proofs.YtdeplgkhmebalaaGreatDoor
open Go.RowKit

def Full (v:Value) (n:Nat):Prop:=v= .slice none 0 0∨ ∃g,v= .slice (some ⟨g,0,none⟩) n n
section
variable{P:Program} (w:World)
theorem run_append_full (t ty:TypeId) (base:Nat) (e:TypeId) (i:TypeInfo) (z:Value) (size bytes:Nat) (ht:P.underlying t=some (.slice e)) (hi:P.info? e=some i) (hz:i.zero=some z)
  (hsize:i.size=size) (hby:i.bytes=bytes) (hzs:z.cells.size=size) (hsz:0<size)
  (v:Value) (n:Nat) (xs:List Value) (hown:w.ownsRow base e size v n xs) (hfull:Full v n)
  (ad:Nat) (m c:Nat) (news:List Value) (hl:news.length=m*size) (hcell: ∀j u,news[j]? =some u→w.cell? ⟨ad,0+j,none⟩=some u) (h1: ∀u∈news,u.oneCell'=true) (hm:0<m)
  (h63:n+m≤maxLen) (hbytes:(n+m)*bytes≤140737488355328) (hbase:base≤w.heap.size):
  ∃v' w',(Builtin.append_ #[t,t] ty #[v,.slice (some ⟨ad,0,none⟩) m c]).run P w= .ok v' w'∧w'.ownsRow w.heap.size e size v' (n+m) (xs++news)∧Kp no w w':=by
 have hn: ∀j u,news[j]? =some u→w.cell? ((⟨ad,0,none⟩:Addr).add j)=some u:=fun j u hj=>by rw[Addr.add_lit];exact hcell j u hj
 obtain⟨v',w',hr,h2,-,-⟩:=run_append_own (P:=P) w base t ty e i z size bytes ht hi hz hsize hby hzs hsz v n xs hown ⟨ad,0,none⟩ m c news hl hn h1 h63 hbytes hbase
 have hsm:n+m≤9223372036854775807:=by simp only[maxLen]at h63;omega
 subst hsize hby
 have key: ∀{v2:Value} {o:Obj},(Builtin.append_ #[t,t] ty #[v,.slice (some ⟨ad,0,none⟩) m c]).run P w= .ok v2 (w.drew.alloc o)→v2.ownBlock=some w.heap.size→w'.ownsRow w.heap.size e i.size v' (n+m) (xs++news)∧Kp no w w':=by
  intro v2 o h3 h4
  rw[hr]at h3
  cases h3
  refine⟨⟨h2.1,?_⟩,((Kp.refl no w).drew).alloc _⟩
  rcases h2.2 with⟨h5,-⟩|⟨g,cap,cur,h5,-,h6⟩
  ·rw[h5]at h4;cases h4
  ·rw[h5]at h4
   have hgw:g=w.heap.size:=Option.some.inj h4
   exact .inr ⟨g,cap,cur,h5,by omega,h6⟩
 rcases hfull with rfl |⟨g,rfl⟩
 ·have hn0:n=0:=by
   obtain⟨ad',cap',hs⟩:=own_shape hown
   cases hs;rfl
  subst hn0
  rw[Nat.zero_add]at hbytes hsm
  have hr2:=run_append_nil (P:=P) w t ty e i z ht hi hz ⟨ad,0,none⟩ m c news hl hn hm (by omega) (by omega)
  obtain⟨q1,q2⟩:=key hr2 rfl
  exact⟨v',w',hr,q1,q2⟩
 ·have hr2:=run_append_grow (P:=P) w t ty e i z ht hi hz ⟨g,0,none⟩ n n xs hown.1 (hown.cells (g:=g) rfl) ⟨ad,0,none⟩ m c news hl hn (by omega) (by omega) (growslice_fits (by omega) hbytes)
  obtain⟨q1,q2⟩:=key hr2 rfl
  exact⟨v',w',hr,q1,q2⟩
theorem wpList_append_full {ops:Array Oper} {rest:List Oper} {o:Oper} {a:Act} {Q:Exit→Act→World→Prop} (hgd:o.guard=none) (s x:Operand) (t:TypeId)
  (ho:o.op= .call {callee:= .builtin .append,args:= #[s,x],argTypes:= #[t,t]})
  (base:Nat) (e:TypeId) (i:TypeInfo) (z:Value) (size bytes:Nat) (ht:P.underlying t=some (.slice e)) (hi:P.info? e=some i) (hz:i.zero=some z)
  (hsize:i.size=size) (hby:i.bytes=bytes) (hzs:z.cells.size=size) (hsz:0<size)
  (v:Value) (n:Nat) (xs:List Value) (hs:a.eval s=v) (hown:w.ownsRow base e size v n xs) (hfull:Full v n)
  (ad m c:Nat) (news:List Value) (hx:a.eval x= .slice (some ⟨ad,0,none⟩) m c) (hl:news.length=m*size) (hcell: ∀j u,news[j]? =some u→w.cell? ⟨ad,0+j,none⟩=some u) (h1: ∀u∈news,u.oneCell'=true) (hm:0<m)
  (h63:n+m≤maxLen) (hbytes:(n+m)*bytes≤140737488355328) (hbase:base≤w.heap.size)
  (h: ∀v' w',w'.ownsRow w.heap.size e size v' (n+m) (xs++news)→Kp no w w'→wpList P ops Q rest (a.put o.dst v') w'):wpList P ops Q (o::rest) a w:=by
 refine wpList_plain hgd fun _ hK=> ?_
 obtain⟨v',w',hr,h2,h3⟩:=run_append_full (P:=P) w t o.type base e i z size bytes ht hi hz hsize hby hzs hsz v n xs hown hfull ad m c news hl hcell h1 hm h63 hbytes hbase
 unfold Oper.wp execOp
 simp only[ho,resolve,invoke,builtin,Sem.run_bind,Sem.run_pure,Result.andThen_ok,List.map_toArray,List.map_cons,List.map_nil,hs,hx,hr]
 exact hK _ _ (h v' w' h2 h3)
end
end Go.Proofs.YtdeplgkhmebalaaGreatDoor

set_option linter.unusedSimpArgs false
set_option linter.unusedVariables false
set_option maxHeartbeats 4000000
set_option maxRecDepth 100000
namespace Go.Proofs.YtdeplgkhmebalaaGreatDoor
open Go.RowKit

theorem info_Bytes: ∃i z,Tryz.prog.info? 158=some i∧i.zero=some z∧i.size=5∧i.bytes=104∧z.cells.size=5:=Rf.info_of (by kernel_rfl)

theorem ls_own {w:World} {ro:Nat→Prop} {base:Nat} {e:TypeId} {v:Value} {n:Nat} {m:UInt8} {xs:List Value} (h:w.ownsRow base e 1 v n xs) (hx:xs=List.replicate n (.int .u8 m.toNat)) (hn:n≤1000) (hr:RoV ro v):Ls w ro v m:=
 ⟨n,hn,by unfold BytesAt;rw[List.length_replicate,List.map_replicate,←hx];exact RowAt.own h,hr⟩
theorem newc {W:World} {cs:Array Value} {t:TypeId} {b:Nat} (hb:b=W.heap.size): ∀j u,cs.toList[j]? =some u→(W.alloc (.cells cs t)).cell? ⟨b,0+j,none⟩=some u:=fun j u hj=>by
 rw[hb,Nat.zero_add,(cells_of (heap_alloc_new _ _)).1]
 simpa using hj

theorem bytes_any {w:World} {X:Nat→Prop} {wb:Nat} {n:Int} {mv bv lv:Value} {mods:List Md} {cnt:Nat} (h:LwSt w X wb n mv bv mods cnt) {l0:List UInt8} (hown:w.ownsRow (wb+1) 5 1 lv l0.length (Rf.byteVals l0)) (hfull:Full lv l0.length) (hl:l0.length≤100) (hX: ∀b,lv.ownBlock=some b→X b∧mv.ownBlock≠some b∧bv.ownBlock≠some b) (hc:cnt≤1000000000) (hXl: ∀b,X b→b<w.heap.size):
  Calls Tryz.prog 89 #[.pointer (some ⟨wb,3,none⟩),lv] w fun r w'=>r= .returned (.tuple #[])∧ ∃n' bv',LwSt w' (fun b=>X b∧lv.ownBlock≠some b) wb n' mv bv' mods (cnt+1)∧Mv w bv bv'∧Kp (fun b=>b=wb∨bv.ownBlock=some b∨lv.ownBlock=some b) w w':=by
 obtain⟨hcw,hfw⟩:=cells_of h.blk
 obtain⟨hn1,hn2⟩:=h.n0
 obtain⟨n',hn'⟩: ∃n',wrap64 (n+1)=n':=⟨_,rfl⟩
 obtain⟨adl,capl,hlv⟩:=own_shape hown
 have H:=hide h
 have HO:=hide hown
 have HF:=hide hfull
 have HX:=hide hX
 have HXl:=hide hXl
 clear h hown hfull hX hXl
 subst hlv
 go_enter Tryz.func89,Tryz.ntmps89
 go_wp2_with fail
 obtain⟨m,hm⟩: ∃m:UInt8,wrap64 (n'.tmod 250+1)%256=((m.toNat:Nat):Int):=by
  refine⟨UInt8.ofNat (wrap64 (n'.tmod 250+1)%256).toNat,?_⟩
  have h1:=Int.emod_nonneg (wrap64 (n'.tmod 250+1)) (show(256:Int)≠0 by decide)
  have h2:=Int.emod_lt_of_pos (wrap64 (n'.tmod 250+1)) (show(0:Int)<256 by decide)
  rw[UInt8.toNat_ofNat']
  omega
 rw[hm,hn']
 have hn3: -9223372036854775808≤n'∧n'≤9223372036854775807:=by rw[←hn'];unfold wrap64;omega
 have Hn3:=hide hn3
 have k0:Kp (one wb) w (w.setCell ⟨wb,3,none⟩ (.int .i64 n')):=(Kp.refl _ _).set1 _ _
 have hb0:=heap_setCell (o:=3) H.out.blk (.int .i64 n')
 have hown0:=k0.own HO.out (fun b hb e=>by have :=own_new HO.out b hb;unfold one at e;omega)
 generalize w.setCell ⟨wb,3,none⟩ (.int .i64 n')=w0 at *
 have HO0:=hide hown0
 have HB0:=hide hb0
 have K0:=hide k0
 clear hm hn' hn3 hown0 hb0 k0 hcw hfw hn1 hn2
 go_loopw [5] (fun i wr=> ∃k:Nat,k≤l0.length∧i= .int .i64 k∧wr.ownsRow (wb+1) 5 1 (.slice adl l0.length capl) l0.length (Rf.byteVals (List.replicate k m++l0.drop k))∧Kp (fun b=>(Value.slice adl l0.length capl).ownBlock=some b) w0 wr) (fun i _=>l0.length - (intOf i).toNat)
 case atStart=>exact⟨0,by omega,rfl,by simpa using HO0.out,Kp.refl _ _⟩
 case round=>
  obtain⟨k,hk,rfl,hown,hkp⟩:=hrel
  have HOk:=hide hown
  have HK:=hide hkp
  clear hkp
  by_cases hlt:k<l0.length
  ·obtain⟨g,hg⟩: ∃g,adl=some ⟨g,0,none⟩:=by
    rcases hown.2 with⟨h1,h2⟩|⟨g,cap,cur,h1,-⟩
    ·omega
    ·cases h1;exact⟨g,rfl⟩
   subst hg
   obtain⟨-,-,cur,hcur,hcx⟩:=Rf.own_heap hown
   obtain⟨c0,hc0⟩:=hcx k (by omega)
   have hx:wr.cell? ⟨g,k,none⟩=some c0:=by rw[(cells_of hcur).1];exact hc0
   have hy:wr.frozen? ⟨g,k,none⟩=false:=(cells_of hcur).2 k
   clear hown hcur hcx hc0
   go_wp2_with fail
   go_roundw
   case rel=>
    have ho:=Rf.own_set (k:=k) HOk.out (.int .u8 m.toNat)
    rw[Nat.zero_add]at ho
    refine⟨k+1,by omega,by go_num,?_,HK.out.setAt (by rfl) _ _⟩
    have he:(Rf.byteVals (List.replicate k m++l0.drop k)).set k (.int .u8 m.toNat)=Rf.byteVals (List.replicate (k+1) m++l0.drop (k+1)):=by
     unfold Rf.byteVals
     rw[List.drop_eq_getElem_cons hlt,List.map_append,List.map_cons,List.set_append_right _ _ (by simp),List.map_append,List.replicate_succ',List.map_append,List.append_assoc]
     simp
    rw[←he]
    exact ho
   case measure=>simp[intOf];omega
  ·obtain rfl :k=l0.length:=by omega
   rw[List.drop_length,List.append_nil]at hown
   have HOl:=hide hown
   obtain⟨j1,hj1,hy0,hy1,hy2⟩:=info_parts info_su8
   have hwr:=HK.out.size
   have hw0:=K0.out.size
   have hwbl:=lt_of_blk HB0.out
   clear hown HOk
   go_wp2_with(at_builtin;refine wpList_append_full _ rfl _ _ 25 rfl (wb+1) 5 j1 (.int .u8 0) 1 1 Tryz.underlying25 hj1 hy0 hy1 hy2 rfl (by decide) _ _ _ rfl ((HOl.out.alloc _).alloc _) HF.out _ 1 _ [.int .u8 m.toNat] rfl rfl ?a6 ?a7 (by decide) ?a3 ?a4 ?a5 ?_)
   case a6=>exact newc (by simp)
   case a7=>intro u hu;simp at hu;subst hu;rfl
   case a3=>unfold maxLen;omega
   case a4=>omega
   case a5=>simp;omega
   intro v1 w1 ho1 k1
   obtain⟨ad1,cap1,rfl⟩:=own_shape ho1
   have kr1:Kp no wr w1:=(((Kp.refl no wr).alloc _).alloc _).trans k1
   have hx1:=k1.blk (heap_alloc_old (heap_alloc_new wr (.cells #[.slice adl l0.length capl,.slice none 0 0,.slice none 0 0,.slice none 0 0,.int .u8 m.toNat] 158))) (fun h=>h)
   obtain⟨hcx,hfx⟩:=cells_of hx1
   have HX1:=hide hx1
   have HO1:=hide ho1
   have KR1:=hide kr1
   have hz1:=kr1.size
   have hzx:=lt_of_blk hx1
   clear hx1 ho1 kr1 k1
   go_upto_region 8 with fail
   have hx2:=heap_setCell (o:=1) HX1.out (.slice ad1 (l0.length+1) cap1)
   have k2:Kp (one wr.heap.size) w1 (w1.setCell ⟨wr.heap.size,1,none⟩ (.slice ad1 (l0.length+1) cap1)):=(Kp.refl _ _).set1 _ _
   have KR2:=hide (KR1.out.setNew (Nat.le_refl _) 1 (.slice ad1 (l0.length+1) cap1))
   have HO2:=hide (k2.own HO1.out (fun b hb e=>by have :=own_new HO1.out b hb;unfold one at e;omega))
   generalize w1.setCell ⟨wr.heap.size,1,none⟩ (.slice ad1 (l0.length+1) cap1)=w2 at *
   have HX2:=hide hx2
   have HOl2:=hide (KR2.out.own HOl.out (fun _ _ h=>h))
   have hz2:=KR2.out.size
   clear hx2 hcx hfx k2
   obtain⟨hcx,hfx⟩:=cells_of HX2.out
   go_wp2_with(at_builtin;refine wpList_append_full _ rfl _ _ 25 rfl (wb+1) 5 j1 (.int .u8 0) 1 1 Tryz.underlying25 hj1 hy0 hy1 hy2 rfl (by decide) _ _ _ rfl (HOl2.out.alloc _) HF.out _ 2 _ [.int .u8 m.toNat,.int .u8 m.toNat] rfl rfl ?b6 ?b7 (by decide) ?b3 ?b4 ?b5 ?_)
   case b6=>exact newc (by simp)
   case b7=>intro u hu;simp at hu;subst hu;rfl
   case b3=>unfold maxLen;omega
   case b4=>omega
   case b5=>simp;omega
   intro v3 w3 ho3 k3
   obtain⟨ad3,cap3,rfl⟩:=own_shape ho3
   have k23:Kp no w2 w3:=((Kp.refl no w2).alloc _).trans k3
   have hx3:=k23.blk HX2.out (fun h=>h)
   obtain⟨hcx3,hfx3⟩:=cells_of hx3
   have HX3:=hide hx3
   have HO3:=hide ho3
   have KR3:=hide (KR2.out.trans k23)
   have HO13:=hide (k23.own HO2.out (fun _ _ h=>h))
   have hz3:=k23.size
   clear hx3 ho3 k3 k23 hcx hfx
   go_upto_region 9 with fail
   have hx4:=heap_setCell (o:=2) HX3.out (.slice ad3 (l0.length+2) cap3)
   have k4:Kp (one wr.heap.size) w3 (w3.setCell ⟨wr.heap.size,2,none⟩ (.slice ad3 (l0.length+2) cap3)):=(Kp.refl _ _).set1 _ _
   have KR4:=hide (KR3.out.setNew (Nat.le_refl _) 2 (.slice ad3 (l0.length+2) cap3))
   have HO14:=hide (k4.own HO13.out (fun b hb e=>by have :=own_new HO13.out b hb;unfold one at e;omega))
   have HO34:=hide (k4.own HO3.out (fun b hb e=>by have :=own_new HO3.out b hb;unfold one at e;omega))
   generalize w3.setCell ⟨wr.heap.size,2,none⟩ (.slice ad3 (l0.length+2) cap3)=w4 at *
   have HX4:=hide hx4
   have HOl4:=hide (KR4.out.own HOl.out (fun _ _ h=>h))
   have hz4:=KR4.out.size
   have hz34:=k4.size
   clear hx4 hcx3 hfx3 k4
   obtain⟨hcx,hfx⟩:=cells_of HX4.out
   go_wp2_with(at_builtin;refine wpList_append_full _ rfl _ _ 25 rfl (wb+1) 5 j1 (.int .u8 0) 1 1 Tryz.underlying25 hj1 hy0 hy1 hy2 rfl (by decide) _ _ _ rfl (HOl4.out.alloc _) HF.out _ 3 _ [.int .u8 m.toNat,.int .u8 m.toNat,.int .u8 m.toNat] rfl rfl ?c6 ?c7 (by decide) ?c3 ?c4 ?c5 ?_)
   case c6=>exact newc (by simp)
   case c7=>intro u hu;simp at hu;subst hu;rfl
   case c3=>unfold maxLen;omega
   case c4=>omega
   case c5=>simp;omega
   intro v5 w5 ho5 k5
   obtain⟨ad5,cap5,rfl⟩:=own_shape ho5
   have k45:Kp no w4 w5:=((Kp.refl no w4).alloc _).trans k5
   have hx5:=k45.blk HX4.out (fun h=>h)
   obtain⟨hcx5,hfx5⟩:=cells_of hx5
   have HX5:=hide hx5
   have HO5:=hide ho5
   have KR5:=hide (KR4.out.trans k45)
   have HO15:=hide (k45.own HO14.out (fun _ _ h=>h))
   have HO35:=hide (k45.own HO34.out (fun _ _ h=>h))
   have hz5:=k45.size
   clear hx5 ho5 k5 k45 hcx hfx
   go_upto_region 10 with fail
   have hx6:=heap_setCell (o:=3) HX5.out (.slice ad5 (l0.length+3) cap5)
   have k6:Kp (one wr.heap.size) w5 (w5.setCell ⟨wr.heap.size,3,none⟩ (.slice ad5 (l0.length+3) cap5)):=(Kp.refl _ _).set1 _ _
   have KR6:=hide (KR5.out.setNew (Nat.le_refl _) 3 (.slice ad5 (l0.length+3) cap5))
   have HO16:=hide (k6.own HO15.out (fun b hb e=>by have :=own_new HO15.out b hb;unfold one at e;omega))
   have HO36:=hide (k6.own HO35.out (fun b hb e=>by have :=own_new HO35.out b hb;unfold one at e;omega))
   have HO56:=hide (k6.own HO5.out (fun b hb e=>by have :=own_new HO5.out b hb;unfold one at e;omega))
   generalize w5.setCell ⟨wr.heap.size,3,none⟩ (.slice ad5 (l0.length+3) cap5)=w6 at *
   have HX6:Hid (w6.heap[wr.heap.size]? =some (.cells #[.slice adl l0.length capl,.slice ad1 (l0.length+1) cap1,.slice ad3 (l0.length+2) cap3,.slice ad5 (l0.length+3) cap5,.int .u8 m.toNat] 158)):=hide hx6
   have HOl6:=hide (KR6.out.own HOl.out (fun _ _ h=>h))
   have hz6:=KR6.out.size
   have hz56:=k6.size
   clear hx6 hcx5 hfx5 k6
   have hB6:=KR6.out.blk (HK.out.blk HB0.out (fun e=>by have :=own_new HO.out wb e;omega)) (fun h=>h)
   have HB6:Hid (w6.heap[wb]? =some (.cells #[mv,.slice none 0 0,.slice none 0 0,.int .i64 n',bv,.slice none 0 0,.slice none 0 0,.bool false] 90)):=hide hB6
   clear hB6
   obtain⟨cs,hown,hrow⟩:=H.out.bown
   obtain⟨adB,capB,hvB⟩:=own_shape hown
   have hcl:=hown.1
   have hbne: ∀b,bv.ownBlock=some b→wb+1≤b:=own_new hown
   have hblt: ∀b,bv.ownBlock=some b→b<w.heap.size:=fun b hb=>(hown.lt b hb).2
   have k06:Kp (fun b=>b=wb∨(Value.slice adl l0.length capl).ownBlock=some b) w w6:=((K0.out.mono (fun b _ h=> .inl h)).trans (HK.out.mono (fun b _ h=> .inr h))).then KR6.out
   have hown6:=k06.own hown (fun b hb e=>by
    rcases e with e|e
    ·have :=hbne b hb;omega
    ·exact(HX.out b e).2.2 hb)
   obtain⟨j5,z5,hj5,hw0,hw1,hw2,hw3⟩:=info_Bytes
   obtain⟨S,hSd⟩: ∃S:World→Prop,S=fun w'=>(∀q,w'.cell? ⟨wb,q,none⟩= #[mv,.slice none 0 0,.slice none 0 0,.int .i64 n',.slice adB cnt capB,.slice none 0 0,.slice none 0 0,.bool false][q]?)∧(∀q,w'.frozen? ⟨wb,q,none⟩=false)∧(∀q,w'.cell? ⟨wr.heap.size,q,none⟩= #[.slice adl l0.length capl,.slice ad1 (l0.length+1) cap1,.slice ad3 (l0.length+2) cap3,.slice ad5 (l0.length+3) cap5,.int .u8 m.toNat][q]?):=⟨_,rfl⟩
   have hSk: ∀W,Kp (fun b=>bv.ownBlock=some b) w6 W→S W:=fun W k=>by
    rw[hSd]
    have hbk:=k.blk HB6.out (fun e=>by have :=hbne wb e;omega)
    rw[hvB]at hbk
    exact⟨(cells_of hbk).1,(cells_of hbk).2,(cells_of (k.blk HX6.out (fun e=>by have :=hblt _ e;omega))).1⟩
   have HSk:=hide hSk
   have HSd:=hide hSd
   have HOwn:=hide hown
   have HOwn6:=hide hown6
   have HRow:=hide hrow
   have HVB:=hide hvB
   have K06:=hide k06
   clear hSk hSd hown hown6 hrow hvB k06
   refine wp_region_S 10 (S) (by kernel_rfl) (n:=11) rfl rfl ?hS (fun hS=> ?_)
   case hS=>exact HSk.out _ ((Kp.refl _ _).drew)
   have hSd:=HSd.out
   subst hSd
   refine tk 0 [] rfl (by kernel_rfl) rfl (fun _ _ _ h=>h) hS (fun _ h=>by(try dsimp only at h);go_simp;all_goals with_reducible rfl) ?_
   simp only[pS]
   refine tk 1 [] rfl (by kernel_rfl) rfl (fun _ _ _ h=>h) hS (fun _ h=>by(try dsimp only at h);go_simp;all_goals with_reducible rfl) ?_
   simp only[pS]
   refine tk 2 [] rfl (by kernel_rfl) rfl (fun _ _ _ h=>h) hS (fun _ h=>by(try dsimp only at h);go_simp;all_goals with_reducible rfl) ?_
   simp only[pS]
   refine tk 3 [] rfl (by kernel_rfl) rfl (fun _ _ _ h=>h) hS (fun _ h=>by(try dsimp only at h);go_simp;all_goals with_reducible rfl) ?_
   simp only[pS]
   refine tk 4 [] rfl (by kernel_rfl) rfl (fun _ _ _ h=>h) hS (fun _ h=>by(try dsimp only at h);go_simp;all_goals with_reducible rfl) ?_
   simp only[pS]
   refine tk 5 [] rfl (by kernel_rfl) rfl (fun _ _ _ h=>h) hS (fun _ h=>by(try dsimp only at h);go_simp;all_goals with_reducible rfl) ?_
   simp only[pS]
   refine wpAnyS_one 6 rfl (by kernel_rfl) rfl (fun K hK=> ?_)
   go_simp
   have kal:Kp no w6 ((w6.alloc (.cells #[.slice adl l0.length capl,.slice ad1 (l0.length+1) cap1,.slice ad3 (l0.length+2) cap3,.slice ad5 (l0.length+3) cap5,.int .u8 m.toNat] 158)).drew):=((Kp.refl _ _).alloc _).drew
   have hsrc:RowAt ((w6.alloc (.cells #[.slice adl l0.length capl,.slice ad1 (l0.length+1) cap1,.slice ad3 (l0.length+2) cap3,.slice ad5 (l0.length+3) cap5,.int .u8 m.toNat] 158)).drew) (.slice (some ⟨w6.heap.size,0,none⟩) 1 1) 5 1 [.slice adl l0.length capl,.slice ad1 (l0.length+1) cap1,.slice ad3 (l0.length+2) cap3,.slice ad5 (l0.length+3) cap5,.int .u8 m.toNat]:=(Rf.RowAt.newRow w6 #[.slice adl l0.length capl,.slice ad1 (l0.length+1) cap1,.slice ad3 (l0.length+2) cap3,.slice ad5 (l0.length+3) cap5,.int .u8 m.toNat] 158).kp ((Kp.refl no _).drew) (fun _ _ h=>h)
   generalize(w6.alloc (.cells #[.slice adl l0.length capl,.slice ad1 (l0.length+1) cap1,.slice ad3 (l0.length+2) cap3,.slice ad5 (l0.length+3) cap5,.int .u8 m.toNat] 158)).drew=w7 at *
   have hown':w6.ownsRow (wb+1) 158 5 (.slice adB cnt capB) cnt cs:=by rw[←HVB.out];exact HOwn6.out
   refine hK _ _ (HSk.out _ kal.any) (fun hS=> ?_)
   clear hK K
   refine wpAnyS_one 7 rfl (by kernel_rfl) rfl (fun K hK=> ?_)
   refine step_append_at _ (by rfl) _ _ _ (by rfl) (wb+1) 158 j5 _ 5 104 Tryz.underlying84 hj5 hw0 hw1 hw2 hw3 (by omega) _ cnt cs (by rfl) (kal.own hown' (fun _ _ h=>h)) (.slice (some ⟨w6.heap.size,0,none⟩) 1 1) 1 [.slice adl l0.length capl,.slice ad1 (l0.length+1) cap1,.slice ad3 (l0.length+2) cap3,.slice ad5 (l0.length+3) cap5,.int .u8 m.toNat] (by rfl) hsrc ?g2 ?g3 ?g4 ?g5 ?_
   case g2=>intro u hu;simp at hu;rcases hu with rfl |rfl |rfl |rfl |rfl <;>rfl
   case g3=>unfold maxLen;omega
   case g4=>omega
   case g5=>have :=kal.size;omega
   intro v8 w8 hown8 hgrow8 hat8
   rw[←HVB.out]at hgrow8 hat8
   have k8:Kp (fun b=>bv.ownBlock=some b) w6 w8:=(kal.any).grown hgrow8 (fun b hb=> .inl hb)
   refine hK _ _ (HSk.out _ k8) (fun hS=> ?_)
   clear hK K
   obtain⟨ad8,cap8,rfl⟩:=own_shape hown8
   refine tk 8 [9] rfl (by kernel_rfl) rfl (fun _ _ _ h=>h) hS (fun _ h=>by(try dsimp only at h);go_simp;all_goals with_reducible rfl) ?_
   simp only[pS]
   refine tk 9 [] rfl (by kernel_rfl) rfl (fun _ _ _ h=>h) hS (fun _ h=>by(try dsimp only at h);go_simp;all_goals with_reducible rfl) ?_
   simp only[pS]
   refine wpAnyS_end 10 rfl (by kernel_rfl) rfl (by kernel_rfl) (fun K hK=> ?_)
   go_simp
   refine hK _ _ ?_
   clear hK K
   refine wpAnyS_done (by kernel_rfl) ?_ _
   have kF:Kp (fun b=>b=wb∨bv.ownBlock=some b∨(Value.slice adl l0.length capl).ownBlock=some b) w (w8.setCell ⟨wb,4,none⟩ (.slice ad8 (cnt+1) cap8)):=((K06.out.mono (fun b _ h=>by rcases h with h|h;exact .inl h;exact .inr (.inr h))).trans (k8.mono (fun b _ h=> .inr (.inl h)))).setAt (.inl rfl) _ _
   have hbF:=heap_setCell (o:=4) (k8.blk HB6.out (fun e=>by have :=hbne wb e;omega)) (.slice ad8 (cnt+1) cap8)
   have hownF:=((Kp.refl (one wb) w8).set1 4 (.slice ad8 (cnt+1) cap8)).own hown8 (fun b hb e=>by have :=own_new hown8 b hb;unfold one at e;omega)
   have k6F:Kp (fun b=>b=wb∨bv.ownBlock=some b) w6 (w8.setCell ⟨wb,4,none⟩ (.slice ad8 (cnt+1) cap8)):=(k8.mono (fun b _ h=> .inr h)).setAt (.inl rfl) _ _
   have hz7:=kal.size
   have hw6:=K06.out.size
   have hwbw:=lt_of_blk H.out.blk
   have hMv:Mv w bv (.slice ad8 (cnt+1) cap8):=by
    rcases hat8 with e|e
    ·exact .inl e
    ·exact .inr ⟨_,e,by omega⟩
   generalize w8.setCell ⟨wb,4,none⟩ (.slice ad8 (cnt+1) cap8)=wz at *
   have hz:=k6F.size
   have hr:=RO.on (w:=w) (w':=wz) (X:=X) (X':=fun b=>X b∧(Value.slice adl l0.length capl).ownBlock≠some b) (wb:=wb) (mv:=mv) (bv:=bv) (mv':=mv) (bv':= .slice ad8 (cnt+1) cap8) kF.size (.inl rfl) hMv (fun b h=> .inl h.1)
   have kR:Kp (nro (RO w X wb mv bv)) w wz:=kF.mono (fun b _ h hn=>by
    rcases h with h|h|h
    ·exact hn.2.1 h
    ·exact hn.2.2.2.1 h
    ·exact hn.2.2.2.2 (HX.out b h).1)
   obtain⟨c1,o1,r1⟩:=H.out.mown
   have rov: ∀{v:Value} {base k:Nat} {xs:List Value},w6.ownsRow base 5 1 v k xs→w.heap.size≤base→RoV (RO wz (fun b=>X b∧(Value.slice adl l0.length capl).ownBlock≠some b) wb mv (.slice ad8 (cnt+1) cap8)) v∧wz.ownsRow base 5 1 v k xs:=by
    intro v base k xs o hb
    refine⟨fun b hb'=> ?_,k6F.own o (fun b hb' e=> ?_)⟩
    ·obtain⟨q1,q2⟩:=o.lt b hb'
     refine⟨by omega,by omega,fun e=>by have :=(o1.lt b e).2;omega,fun e=> ?_,fun e=>by have :=HXl.out b e.1;omega⟩
     rcases hat8 with h|h
     ·rw[h]at e;have :=hblt b e;omega
     ·rw[h]at e;cases e;omega
    ·obtain⟨q1,q2⟩:=o.lt b hb'
     rcases e with e|e
     ·omega
     ·have :=hblt b e;omega
   obtain⟨q1,q2⟩:=rov HO16.out (by omega)
   obtain⟨q3,q4⟩:=rov HO36.out (by omega)
   obtain⟨q5,q6⟩:=rov HO56.out (by omega)
   have q7:RoV (RO wz (fun b=>X b∧(Value.slice adl l0.length capl).ownBlock≠some b) wb mv (.slice ad8 (cnt+1) cap8)) (.slice adl l0.length capl):=fun b hb=>by
    have hlt:=(HO.out.lt b hb).2
    refine⟨by omega,by have :=own_new HO.out b hb;omega,(HX.out b hb).2.1,hMv.ne hlt (HX.out b hb).2.2,fun e=>e.2 hb⟩
   have q8:=k6F.own HOl6.out (fun b hb e=>by
    rcases e with e|e
    ·have :=own_new HO.out b hb;omega
    ·exact(HX.out b hb).2.2 e)
   have hst:LwSt wz (fun b=>X b∧(Value.slice adl l0.length capl).ownBlock≠some b) wb n' mv (.slice ad8 (cnt+1) cap8) mods (cnt+1):=by
    refine⟨hbF,H.out.tab.on kR hr,⟨c1,kF.own o1 (fun b hb e=> ?_),r1.on kR hr⟩,H.out.mok,H.out.ml,⟨_,hownF,(HRow.out.on kR hr).snoc hcl (ls_own q8 ?_ (by omega) q7) (ls_own q2 ?_ (by omega) q1) (ls_own q4 ?_ (by omega) q3) (ls_own q6 ?_ (by omega) q5)⟩,fun b hb=>hMv.ne (o1.lt b hb).2 (H.out.dis b hb),Hn3.out⟩
    ·rcases e with e|e|e
     ·have :=own_new o1 b hb;omega
     ·exact H.out.dis b hb e
     ·exact(HX.out b e).2.1 hb
    ·simp
    ·rw[List.replicate_succ']
    ·rw[show[Value.int .u8 m.toNat,.int .u8 m.toNat]=List.replicate 2 (.int .u8 m.toNat)from rfl,List.replicate_append_replicate]
    ·rw[show[Value.int .u8 m.toNat,.int .u8 m.toNat,.int .u8 m.toNat]=List.replicate 3 (.int .u8 m.toNat)from rfl,List.replicate_append_replicate]
   have HSt:=hide hst
   have KFF:=hide kF
   have HMv:=hide hMv
   clear hst kF hMv q1 q2 q3 q4 q5 q6 q7 q8 rov kR hr hownF hbF k6F hS hat8 hgrow8 hown8 k8 hown' hsrc kal r1 o1
   go_wp2_with fail
   first |go_end0|(refine bodyPost_ret (v:= .tuple #[]) (by simp[results,Tryz.results89,go_sem]) rfl ?_)
   exact⟨rfl,n',_,HSt.out,HMv.out,KFF.out⟩
end Go.Proofs.YtdeplgkhmebalaaGreatDoor
