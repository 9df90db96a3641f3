/- The run of a module's code: what its state holds, and where it lies. -/
import Derived.Test.YtdeplgkhmebalaaGreatDoorP29
import Derived.Test.YtdeplgkhmebalaaGreatDoorP12
import Derived.Maps.OwnSet
import Derived.Test.YtdeplgkhmebalaaGreatDoorP30
import Derived.Test.YtdeplgkhmebalaaGreatDoorP19
import Derived.Test.YtdeplgkhmebalaaGreatDoorP17
import Derived.Test.YtdeplgkhmebalaaGreatDoorP27
import Derived.Test.YtdeplgkhmebalaaGreatDoorP21

set_option linter.unusedSimpArgs false
set_option linter.unusedVariables false
namespace Go.Proofs.YtdeplgkhmebalaaGreatDoor
open Go.RowKit
open Go.Maps (Keyed)

structure Mc where
 stack:List Int
 calls:List (Nat×Nat×Nat)
 pos:Nat
 fuel:Nat
 mem:List UInt8
 gl:List Int
 keys:List (Int×Int)

def callCells (c:Nat×Nat×Nat):List Value:=[.int .i64 c.1,.int .i64 c.2.1,.int .i64 c.2.2]
theorem callLen (c:Nat×Nat×Nat):(callCells c).length=3:=rfl

def ins0:Ins:=⟨0,0,0,0,0⟩
def fn0:FnM:=⟨([],[]),0,0⟩

def FuncsAt (w:World) (ro:Nat→Prop) (v:Value) (fs:List FnM):Prop:=
 ∃ad cap,v= .slice ad fs.length cap∧fs.length≤cap∧ ∀k,k<fs.length→ ∃a o pv rv,ad=some ⟨a,o,none⟩∧ro a∧w.cell? ⟨a,o+k*4,none⟩=some pv∧w.cell? ⟨a,o+k*4+1,none⟩=some rv∧
  w.cell? ⟨a,o+k*4+2,none⟩=some (.int .i64 (fs.getD k fn0).locals)∧w.cell? ⟨a,o+k*4+3,none⟩=some (.int .i64 (fs.getD k fn0).entry)∧
  BytesAt w pv (fs.getD k fn0).typ.1∧RoV ro pv∧BytesAt w rv (fs.getD k fn0).typ.2∧RoV ro rv
def CodeAt (w:World) (ro:Nat→Prop) (v:Value) (cs:List Ins):Prop:=
 ∃ad cap,v= .slice ad cs.length cap∧cs.length≤cap∧ ∀k,k<cs.length→ ∃a o,ad=some ⟨a,o,none⟩∧ro a∧w.cell? ⟨a,o+k*5,none⟩=some (.int .u8 (cs.getD k ins0).op.toNat)∧w.cell? ⟨a,o+k*5+1,none⟩=some (.int .u64 (cs.getD k ins0).num)∧
  w.cell? ⟨a,o+k*5+2,none⟩=some (.int .i64 (cs.getD k ins0).goal)∧w.cell? ⟨a,o+k*5+3,none⟩=some (.int .i64 (cs.getD k ins0).height)∧w.cell? ⟨a,o+k*5+4,none⟩=some (.int .i64 (cs.getD k ins0).keep)
def valCells (l:List Int):List Value:=l.map fun n=> .int .u64 n
def ValsAt (w:World) (v:Value) (l:List Int):Prop:=RowAt w v 1 l.length (valCells l)

structure ModG (w:World) (ro:Nat→Prop) (fb:Nat) (t:TypeId) (f:Flat) (fv gv cv:Value):Prop where
 blk:w.heap[fb]? =some (.cells #[fv,gv,.int .i64 f.pages,cv] t)
 own:ro fb
 funcs:FuncsAt w ro fv f.funcs
 vals:ValsAt w gv (f.globals.map fun(n:Nat)=>((n:Nat):Int))
 valsR:RoV ro gv
 code:CodeAt w ro cv f.code
def ModAt (w:World) (ro:Nat→Prop) (fb:Nat) (t:TypeId) (f:Flat):Prop:= ∃fv gv cv,ModG w ro fb t f fv gv cv

theorem RowAt.ro {ro:Nat→Prop} {w w':World} {v:Value} {sz n:Nat} {xs:List Value} (h:RowAt w v sz n xs) (hr:RoV ro v) (k:Kp (nro ro) w w'):RowAt w' v sz n xs:=h.kp k (fun b hb hn=>hn (hr b hb))
theorem FuncsAt.kp {ro:Nat→Prop} {w w':World} {v:Value} {fs:List FnM} (h:FuncsAt w ro v fs) (k:Kp (nro ro) w w'):FuncsAt w' ro v fs:=by
 obtain⟨ad,cap,hv,hc,hk⟩:=h
 refine⟨ad,cap,hv,hc,fun j hj=> ?_⟩
 obtain⟨a,o,pv,rv,had,hro,h1,h2,h3,h4,h5,h6,h7,h8⟩:=hk j hj
 exact⟨a,o,pv,rv,had,hro,k.cell h1 (fun hn=>hn hro),k.cell h2 (fun hn=>hn hro),k.cell h3 (fun hn=>hn hro),k.cell h4 (fun hn=>hn hro),h5.ro h6 k,h6,h7.ro h8 k,h8⟩
theorem CodeAt.kp {ro:Nat→Prop} {w w':World} {v:Value} {cs:List Ins} (h:CodeAt w ro v cs) (k:Kp (nro ro) w w'):CodeAt w' ro v cs:=by
 obtain⟨ad,cap,hv,hc,hk⟩:=h
 refine⟨ad,cap,hv,hc,fun j hj=> ?_⟩
 obtain⟨a,o,had,hro,h1,h2,h3,h4,h5⟩:=hk j hj
 exact⟨a,o,had,hro,k.cell h1 (fun hn=>hn hro),k.cell h2 (fun hn=>hn hro),k.cell h3 (fun hn=>hn hro),k.cell h4 (fun hn=>hn hro),k.cell h5 (fun hn=>hn hro)⟩
theorem ModG.kp {ro:Nat→Prop} {w w':World} {fb:Nat} {t:TypeId} {f:Flat} {fv gv cv:Value} (h:ModG w ro fb t f fv gv cv) (k:Kp (nro ro) w w'):ModG w' ro fb t f fv gv cv:=
 ⟨k.blk h.blk (fun hn=>hn h.own),h.own,h.funcs.kp k,RowAt.ro h.vals h.valsR k,h.valsR,h.code.kp k⟩
theorem ModAt.kp {ro:Nat→Prop} {w w':World} {fb:Nat} {t:TypeId} {f:Flat} (h:ModAt w ro fb t f) (k:Kp (nro ro) w w'):ModAt w' ro fb t f:=by
 obtain⟨fv,gv,cv,h⟩:=h
 exact⟨fv,gv,cv,h.kp k⟩

theorem keyed64:Keyed Tryz.prog 2:=Maps.int_keyed Tryz.underlying2
def look (m:List (Int×Int)) (k:Int):Option Int:=(m.find? fun p=>p.1==k).map (·.2)
def KRep (D:DataW Unit) (m:List (Int×Int)):Prop:=
 Maps.size D=m.length∧ ∀k,Maps.has D (.int .i64 k)=(look m k).isSome∧D.atKey (.int .i64 k) (.lit (.int .i64 0))= .lit (.int .i64 ((look m k).getD 0))
def KeysAt (w:World) (b:Nat) (m:List (Int×Int)):Prop:= ∃D n,w.ownsMap Tryz.prog 2 (plainElem Tryz.prog 2) b n D∧n≤1000∧KRep D m
theorem KeysAt.kp {S:Nat→Prop} {w w':World} {b:Nat} {m:List (Int×Int)} (h:KeysAt w b m) (k:Kp S w w') (hs: ¬S b):KeysAt w' b m:=by
 obtain⟨D,n,⟨es,clock,hb,F,hn,hD⟩,h2⟩:=h
 exact⟨D,n,⟨es,clock,k.blk hb hs,F,hn,hD⟩,h2⟩
theorem KeysAt.lt {w:World} {b:Nat} {m:List (Int×Int)} (h:KeysAt w b m):b<w.heap.size:=by
 obtain⟨D,n,h1,h2⟩:=h
 exact h1.lt

structure MEnv where
 B:Nat
 lo:Nat→Prop
 mb:Nat
 sb:Nat
 kb:Nat
 fb:Nat
 ft:TypeId
 f:Flat
 ro:Nat→Prop

abbrev machObj (E:MEnv) (s:Mc) (sv cv:Value):Obj:= .cells #[ptrTo E.fb,ptrTo E.sb,sv,cv,.int .i64 s.pos,.int .i64 s.fuel] 172
abbrev stObj (E:MEnv) (mv gv:Value):Obj:= .cells #[mv,gv,.map (some E.kb)] 125
def byteCells' (l:List UInt8):List Value:=l.map fun c=> .int .u8 c.toNat

structure MStG (E:MEnv) (w:World) (s:Mc) (role:Nat→Nat) (sv cv mv gv:Value):Prop where
 base:E.B≤w.heap.size
 mod:ModAt w E.ro E.fb E.ft E.f
 mach:w.heap[E.mb]? =some (machObj E s sv cv)
 st:w.heap[E.sb]? =some (stObj E mv gv)
 stack:w.ownsRow E.B 38 1 sv s.stack.length (valCells s.stack)
 calls:w.ownsRow E.B 210 3 cv s.calls.length (s.calls.flatMap callCells)
 mem:w.ownsRow E.B 5 1 mv s.mem.length (byteCells' s.mem)
 gl:w.ownsRow E.B 38 1 gv s.gl.length (valCells s.gl)
 keys:KeysAt w E.kb s.keys
 r1:role E.mb=1
 r2:role E.sb=2
 r3: ∀b,sv.ownBlock=some b→role b=3
 r4: ∀b,cv.ownBlock=some b→role b=4
 r5: ∀b,mv.ownBlock=some b→role b=5
 r6: ∀b,gv.ownBlock=some b→role b=6
 r7:role E.kb=7
 low: ∀b,E.lo b→role b=0
 loS: ∀b,E.lo b→b<w.heap.size
 roB: ∀b,E.ro b→E.lo b

abbrev upm (E:MEnv):Nat→Prop:=fun b=> ¬E.lo b
def MSt (E:MEnv) (w:World) (s:Mc):Prop:= ∃role sv cv mv gv,MStG E w s role sv cv mv gv

section
variable{E:MEnv} {w w':World} {s:Mc} {role:Nat→Nat} {sv cv mv gv:Value} {X:Nat→Prop}
theorem MStG.up (h:MStG E w s role sv cv mv gv) (k:Kp (fun b=>X (role b)) w w') (h0: ¬X 0):Kp (upm E) w w':=k.mono (fun b _ hx hlt=>h0 (by rw[←h.low b hlt];exact hx))
theorem MStG.kMod (h:MStG E w s role sv cv mv gv) (k:Kp (fun b=>X (role b)) w w') (h0: ¬X 0):ModAt w' E.ro E.fb E.ft E.f:=h.mod.kp (k.mono (fun b _ hx hr=>h0 (by rw[←h.low b (h.roB b hr)];exact hx)))
theorem MStG.kMach (h:MStG E w s role sv cv mv gv) (k:Kp (fun b=>X (role b)) w w') (h1: ¬X 1):w'.heap[E.mb]? =some (machObj E s sv cv):=k.blk h.mach (fun hx=>h1 (by rw[←h.r1];exact hx))
theorem MStG.kSt (h:MStG E w s role sv cv mv gv) (k:Kp (fun b=>X (role b)) w w') (h1: ¬X 2):w'.heap[E.sb]? =some (stObj E mv gv):=k.blk h.st (fun hx=>h1 (by rw[←h.r2];exact hx))
theorem MStG.kStack (h:MStG E w s role sv cv mv gv) (k:Kp (fun b=>X (role b)) w w') (h1: ¬X 3):w'.ownsRow E.B 38 1 sv s.stack.length (valCells s.stack):=k.own h.stack (fun b hb hx=>h1 (by rw[←h.r3 b hb];exact hx))
theorem MStG.kCalls (h:MStG E w s role sv cv mv gv) (k:Kp (fun b=>X (role b)) w w') (h1: ¬X 4):w'.ownsRow E.B 210 3 cv s.calls.length (s.calls.flatMap callCells):=k.own h.calls (fun b hb hx=>h1 (by rw[←h.r4 b hb];exact hx))
theorem MStG.kMem (h:MStG E w s role sv cv mv gv) (k:Kp (fun b=>X (role b)) w w') (h1: ¬X 5):w'.ownsRow E.B 5 1 mv s.mem.length (byteCells' s.mem):=k.own h.mem (fun b hb hx=>h1 (by rw[←h.r5 b hb];exact hx))
theorem MStG.kGl (h:MStG E w s role sv cv mv gv) (k:Kp (fun b=>X (role b)) w w') (h1: ¬X 6):w'.ownsRow E.B 38 1 gv s.gl.length (valCells s.gl):=k.own h.gl (fun b hb hx=>h1 (by rw[←h.r6 b hb];exact hx))
theorem MStG.kKeys (h:MStG E w s role sv cv mv gv) (k:Kp (fun b=>X (role b)) w w') (h1: ¬X 7):KeysAt w' E.kb s.keys:=h.keys.kp k (fun hx=>h1 (by rw[←h.r7];exact hx))
theorem MStG.rerole (h:MStG E w s role sv cv mv gv) {role':Nat→Nat} (hr: ∀k,k<w.heap.size→role' k=role k):MStG E w s role' sv cv mv gv:=
 ⟨h.base,h.mod,h.mach,h.st,h.stack,h.calls,h.mem,h.gl,h.keys,(hr _ (lt_of_blk h.mach)).trans h.r1,(hr _ (lt_of_blk h.st)).trans h.r2,
  fun b hb=>(hr b (own_lt h.stack hb)).trans (h.r3 b hb),fun b hb=>(hr b (own_lt h.calls hb)).trans (h.r4 b hb),fun b hb=>(hr b (own_lt h.mem hb)).trans (h.r5 b hb),fun b hb=>(hr b (own_lt h.gl hb)).trans (h.r6 b hb),
  (hr _ h.keys.lt).trans h.r7,fun b hb=>(hr b (h.loS b hb)).trans (h.low b hb),h.loS,h.roB⟩
theorem MStG.renew (h:MStG E w s role sv cv mv gv) (z:Nat):MStG E w s (newRole role w.heap.size z) sv cv mv gv:=h.rerole (fun _ hk=>newRole_old hk)

theorem MStG.quiet (h:MStG E w s role sv cv mv gv) (k:Kp no w w'):MStG E w' s role sv cv mv gv:=by
 have k':Kp (fun b=>(fun _=>False) (role b)) w w':=k
 exact⟨Nat.le_trans h.base k.size,h.kMod (X:=fun _=>False) k' (fun h=>h),(h.kMach (X:=fun _=>False) k' (fun h=>h):),(h.kSt (X:=fun _=>False) k' (fun h=>h):),(h.kStack (X:=fun _=>False) k' (fun h=>h):),(h.kCalls (X:=fun _=>False) k' (fun h=>h):),(h.kMem (X:=fun _=>False) k' (fun h=>h):),(h.kGl (X:=fun _=>False) k' (fun h=>h):),(h.kKeys (X:=fun _=>False) k' (fun h=>h):),
  h.r1,h.r2,h.r3,h.r4,h.r5,h.r6,h.r7,h.low,fun b hb=>Nat.lt_of_lt_of_le (h.loS b hb) k.size,h.roB⟩
theorem MStG.setMach (h:MStG E w s role sv cv mv gv) {s':Mc} {sv' cv':Value} (k:Kp (fun b=>(fun r=>r=1∨r=3∨r=4) (role b)) w w') (e1:s'.mem=s.mem) (e2:s'.gl=s.gl) (e3:s'.keys=s.keys)
  (hm:w'.heap[E.mb]? =some (machObj E s' sv' cv')) (hs:w'.ownsRow E.B 38 1 sv' s'.stack.length (valCells s'.stack)) (hc:w'.ownsRow E.B 210 3 cv' s'.calls.length (s'.calls.flatMap callCells))
  (h3: ∀b,sv'.ownBlock=some b→role b=3) (h4: ∀b,cv'.ownBlock=some b→role b=4):MStG E w' s' role sv' cv' mv gv:=
 ⟨Nat.le_trans h.base k.size,h.kMod (X:=fun r=>r=1∨r=3∨r=4) k (by decide),hm,(h.kSt (X:=fun r=>r=1∨r=3∨r=4) k (by decide):),hs,hc,by rw[e1];exact h.kMem (X:=fun r=>r=1∨r=3∨r=4) k (by decide),by rw[e2];exact h.kGl (X:=fun r=>r=1∨r=3∨r=4) k (by decide),by rw[e3];exact h.kKeys (X:=fun r=>r=1∨r=3∨r=4) k (by decide),
  h.r1,h.r2,h3,h4,h.r5,h.r6,h.r7,h.low,fun b hb=>Nat.lt_of_lt_of_le (h.loS b hb) k.size,h.roB⟩
theorem MStG.setSt (h:MStG E w s role sv cv mv gv) {s':Mc} {mv' gv':Value} (k:Kp (fun b=>(fun r=>r=2∨r=5∨r=6∨r=7) (role b)) w w') (e1:s'.stack=s.stack) (e2:s'.calls=s.calls) (e3:s'.pos=s.pos) (e4:s'.fuel=s.fuel)
  (hm:w'.heap[E.sb]? =some (stObj E mv' gv')) (hs:w'.ownsRow E.B 5 1 mv' s'.mem.length (byteCells' s'.mem)) (hc:w'.ownsRow E.B 38 1 gv' s'.gl.length (valCells s'.gl)) (hk:KeysAt w' E.kb s'.keys)
  (h5: ∀b,mv'.ownBlock=some b→role b=5) (h6: ∀b,gv'.ownBlock=some b→role b=6):MStG E w' s' role sv cv mv' gv':=by
 obtain⟨st,ca,p,fu,me,gl,ke⟩:=s'
 obtain⟨st',ca',p',fu',me',gl',ke'⟩:=s
 simp only at e1 e2 e3 e4
 subst e1 e2 e3 e4
 exact⟨Nat.le_trans h.base k.size,h.kMod (X:=fun r=>r=2∨r=5∨r=6∨r=7) k (by decide),(h.kMach (X:=fun r=>r=2∨r=5∨r=6∨r=7) k (by decide):),hm,(h.kStack (X:=fun r=>r=2∨r=5∨r=6∨r=7) k (by decide):),(h.kCalls (X:=fun r=>r=2∨r=5∨r=6∨r=7) k (by decide):),hs,hc,hk,
  h.r1,h.r2,h.r3,h.r4,h5,h6,h.r7,h.low,fun b hb=>Nat.lt_of_lt_of_le (h.loS b hb) k.size,h.roB⟩
end

section
variable{E:MEnv} {w w':World} {s:Mc}
theorem MSt.quiet (h:MSt E w s) (k:Kp no w w'):MSt E w' s:=by
 obtain⟨role,sv,cv,mv,gv,h⟩:=h
 exact⟨role,sv,cv,mv,gv,h.quiet k⟩
def MEnv.plus (E:MEnv) (P:Nat→Prop):MEnv:={E with lo:=fun b=>E.lo b∨P b}
theorem MSt.guard (h:MSt E w s) (k:Kp no w w') (P:Nat→Prop) (hP: ∀b,P b→w.heap.size≤b∧b<w'.heap.size):MSt (E.plus P) w' s:=by
 obtain⟨role,sv,cv,mv,gv,h⟩:=h
 have h2:=(h.renew 0).quiet k
 exact⟨_,sv,cv,mv,gv,h2.base,h2.mod,h2.mach,h2.st,h2.stack,h2.calls,h2.mem,h2.gl,h2.keys,h2.r1,h2.r2,h2.r3,h2.r4,h2.r5,h2.r6,h2.r7,
  fun b hb=>hb.elim (h2.low b) (fun hb=>newRole_new (hP b hb).1),fun b hb=>hb.elim (h2.loS b) (fun hb=>(hP b hb).2),fun b hb=> .inl (h2.roB b hb)⟩
theorem MSt.free {P:Nat→Prop} (h:MSt (E.plus P) w s) (hro: ∀b,E.ro b→E.lo b):MSt E w s:=by
 obtain⟨role,sv,cv,mv,gv,h⟩:=h
 exact⟨role,sv,cv,mv,gv,h.base,h.mod,h.mach,h.st,h.stack,h.calls,h.mem,h.gl,h.keys,h.r1,h.r2,h.r3,h.r4,h.r5,h.r6,h.r7,fun b hb=>h.low b (.inl hb),fun b hb=>h.loS b (.inl hb),hro⟩
theorem MSt.roLo (h:MSt E w s): ∀b,E.ro b→E.lo b:=by
 obtain⟨role,sv,cv,mv,gv,h⟩:=h
 exact h.roB
theorem upm_plus {P:Nat→Prop} (k:Kp (upm (E.plus P)) w w'):Kp (upm E) w w':=k.mono (fun _b _ h hb=>h (.inl hb))
theorem MSt.base (h:MSt E w s):E.B≤w.heap.size:=by
 obtain⟨role,sv,cv,mv,gv,h⟩:=h
 exact h.base
theorem MSt.mod (h:MSt E w s):ModAt w E.ro E.fb E.ft E.f:=by
 obtain⟨role,sv,cv,mv,gv,h⟩:=h
 exact h.mod
end

end Go.Proofs.YtdeplgkhmebalaaGreatDoor

set_option linter.unusedSimpArgs false
set_option linter.unusedVariables false
namespace Go.Proofs.YtdeplgkhmebalaaGreatDoor
open Go.RowKit

structure Pt where
 lo:List UInt8
 res:List UInt8
 st:List UInt8
 dp:Nat
abbrev Typing:=Nat→Option Pt
def Goes (T:Typing) (p:Pt) (q:Nat) (st:List UInt8):Prop:= ∃d,T q=some ⟨p.lo,p.res,st,d⟩
def Jumps (T:Typing) (p:Pt) (st:List UInt8) (x:Ins):Prop:=
 x.height+x.keep≤st.length∧ ∃d,T x.goal=some ⟨p.lo,p.res,st.take x.height++st.drop (st.length -x.keep),d⟩∧(x.op=5→d<p.dp)
inductive InsOk (fs:List Ty) (gl:List (UInt8×Bool)) (T:Typing) (code:List Ins) (q:Nat) (p:Pt) (x:Ins):Prop
 |stop (h:x.op=0)
 |into (h:x.op=2∨x.op=3) (g:Goes T p (q+1) p.st)
 |cond4 (st:List UInt8) (h:x.op=4) (e:p.st=st++[127]) (g:Goes T p (q+1) st) (j:Jumps T p st x)
 |jump (h:x.op=5∨x.op=12) (j:Jumps T p p.st x)
 |leave (h:x.op=11) (e:p.st=p.res)
 |cond (st:List UInt8) (h:x.op=13) (e:p.st=st++[127]) (g:Goes T p (q+1) st) (j:Jumps T p st x)
 |table (st:List UInt8) (h:x.op=14) (e:p.st=st++[127]) (g: ∀k,k≤x.num→Goes T p (q+1+k) st∧q+1+k<code.length∧(code.getD (q+1+k) ins0).op=12)
 |call (st:List UInt8) (h:x.op=16) (hn:x.num<fs.length) (e:p.st=st++(fs.getD x.num ([],[])).1) (g:Goes T p (q+1) (st++(fs.getD x.num ([],[])).2))
 |drop (st:List UInt8) (t:UInt8) (h:x.op=26) (e:p.st=st++[t]) (g:Goes T p (q+1) st)
 |choose (st:List UInt8) (t:UInt8) (h:x.op=27) (e:p.st=st++[t]++[t]++[127]) (g:Goes T p (q+1) (st++[t]))
 |getL (h:x.op=32) (hn:x.num<p.lo.length) (g:Goes T p (q+1) (p.st++[p.lo.getD x.num 0]))
 |setL (st:List UInt8) (h:x.op=33) (hn:x.num<p.lo.length) (e:p.st=st++[p.lo.getD x.num 0]) (g:Goes T p (q+1) st)
 |teeL (st:List UInt8) (h:x.op=34) (hn:x.num<p.lo.length) (e:p.st=st++[p.lo.getD x.num 0]) (g:Goes T p (q+1) (st++[p.lo.getD x.num 0]))
 |getG (h:x.op=35) (hn:x.num<gl.length) (g:Goes T p (q+1) (p.st++[(gl.getD x.num (0,false)).1]))
 |setG (st:List UInt8) (h:x.op=36) (hn:x.num<gl.length) (e:p.st=st++[(gl.getD x.num (0,false)).1]) (g:Goes T p (q+1) st)
 |plain (r:RowT) (st:List UInt8) (hr:findM x.op=some r) (h4:r.behind≠4) (e:p.st=st++r.takes) (g:Goes T p (q+1) (st++r.gives)) (hn:x.num<18446744073709551616) (hn':r.behind≠3→x.num<4294967296)

def TLe (T T':Typing):Prop:= ∀q p,T q=some p→ ∃d,d≤p.dp∧T' q=some ⟨p.lo,p.res,p.st,d⟩
def CodeLe (a b:List Ins):Prop:=a.length≤b.length∧ ∀q,q<a.length→(b.getD q ins0).op=(a.getD q ins0).op∧(b.getD q ins0).num=(a.getD q ins0).num∧(b.getD q ins0).height=(a.getD q ins0).height∧(b.getD q ins0).keep=(a.getD q ins0).keep
theorem CodeLe.refl (a:List Ins):CodeLe a a:=⟨Nat.le_refl _,fun _ _=>⟨rfl,rfl,rfl,rfl⟩⟩
theorem CodeLe.trans {a b c:List Ins} (h:CodeLe a b) (k:CodeLe b c):CodeLe a c:=
 ⟨Nat.le_trans h.1 k.1,fun q hq=>by
  have h1:=h.2 q hq
  have h2:=k.2 q (Nat.lt_of_lt_of_le hq h.1)
  exact⟨h2.1.trans h1.1,h2.2.1.trans h1.2.1,h2.2.2.1.trans h1.2.2.1,h2.2.2.2.trans h1.2.2.2⟩⟩
theorem gd_left {l r:List Ins} {q:Nat} (h:q<l.length):(l++r).getD q ins0=l.getD q ins0:=by
 rw[List.getD_eq_getElem?_getD,List.getD_eq_getElem?_getD,List.getElem?_append_left h]
theorem gd_new (l:List Ins) (x:Ins):(l++[x]).getD l.length ins0=x:=by simp
theorem CodeLe.app (a:List Ins) (r:List Ins):CodeLe a (a++r):=⟨by simp,fun q hq=>by rw[gd_left hq];exact⟨rfl,rfl,rfl,rfl⟩⟩
theorem gd_set {l:List Ins} {n q:Nat} {y:Ins}:(l.set n y).getD q ins0=if n=q∧q<l.length then y else l.getD q ins0:=by
 rw[List.getD_eq_getElem?_getD,List.getD_eq_getElem?_getD,List.getElem?_set]
 by_cases h:n=q
 ·subst h
  by_cases hl:n<l.length
  ·simp[hl]
  ·simp[hl]
 ·simp[h]
theorem aim_len (s:Bd) (n:Nat):(aimM s n).code.length=s.code.length:=by simp[aimM]
theorem aim_at (s:Bd) (n:Nat) {q:Nat} (hq:q<s.code.length):(aimM s n).code.getD q ins0=if n=q then {s.code.getD q ins0 with goal:=s.code.length}else s.code.getD q ins0:=by
 show((s.code.set n {s.code.getD n ⟨0,0,0,0,0⟩with goal:=s.code.length}).getD q ins0)=_
 rw[gd_set]
 by_cases h:n=q
 ·rw[if_pos ⟨h,hq⟩,if_pos h,h];rfl
 ·rw[if_neg (fun e=>h e.1),if_neg h]
theorem CodeLe.aim (s:Bd) (n:Nat):CodeLe s.code (aimM s n).code:=by
 refine⟨Nat.le_of_eq (aim_len s n).symm,fun q hq=> ?_⟩
 rw[aim_at s n hq]
 split <;>exact⟨rfl,rfl,rfl,rfl⟩
theorem aims_same (l:List Nat): ∀s:Bd,(aimAll l s).code.length=s.code.length∧(aimAll l s).stack=s.stack∧(aimAll l s).blocks=s.blocks∧(aimAll l s).i=s.i∧(aimAll l s).pos=s.pos∧(aimAll l s).closed=s.closed∧CodeLe s.code (aimAll l s).code∧
  ∀q,q<s.code.length→(aimAll l s).code.getD q ins0=if q∈l then {s.code.getD q ins0 with goal:=s.code.length}else s.code.getD q ins0:=by
 induction l with
 |nil=>intro s;exact⟨rfl,rfl,rfl,rfl,rfl,rfl,CodeLe.refl _,fun q _=>by simp[aimAll]⟩
 |cons a l ih=>
  intro s
  have e:aimAll (a::l) s=aimAll l (aimM s a):=rfl
  obtain⟨h1,h2,h3,h4,h5,h6,h7,h8⟩:=ih (aimM s a)
  rw[e]
  have hl:=aim_len s a
  refine⟨h1.trans hl,h2,h3,h4,h5,h6,(CodeLe.aim s a).trans h7,fun q hq=> ?_⟩
  rw[h8 q (by rw[hl];exact hq),aim_at s a hq,hl]
  by_cases hm:q∈l
  ·rw[if_pos hm,if_pos (List.mem_cons_of_mem _ hm)]
   split <;>rfl
  ·rw[if_neg hm]
   by_cases ha:a=q
   ·subst ha;rw[if_pos rfl,if_pos List.mem_cons_self]
   ·rw[if_neg ha,if_neg (by simp only[List.mem_cons,not_or];exact⟨fun h=>ha h.symm,hm⟩)]

theorem Goes.mono {T T':Typing} (h:TLe T T') {p:Pt} {q:Nat} {st:List UInt8} (g:Goes T p q st):Goes T' p q st:=by
 obtain⟨d,hd⟩:=g
 obtain⟨d',-,h'⟩:=h _ _ hd
 exact⟨d',h'⟩
theorem Jumps.mono {T T':Typing} (h:TLe T T') {p:Pt} {st:List UInt8} {x:Ins} (g:Jumps T p st x):Jumps T' p st x:=by
 obtain⟨h1,d,hd,h5⟩:=g
 obtain⟨d',hle,h'⟩:=h _ _ hd
 exact⟨h1,d',h',fun e=>Nat.lt_of_le_of_lt hle (h5 e)⟩
theorem InsOk.mono {fs:List Ty} {gl:List (UInt8×Bool)} {T T':Typing} (h:TLe T T') {code code':List Ins} (hc:CodeLe code code') {q:Nat} {p:Pt} {x:Ins} (g:InsOk fs gl T code q p x):InsOk fs gl T' code' q p x:=by
 cases g with
 |stop h0=>exact .stop h0
 |into h0 g=>exact .into h0 (g.mono h)
 |cond4 st h0 e g j=>exact .cond4 st h0 e (g.mono h) (j.mono h)
 |jump h0 j=>exact .jump h0 (j.mono h)
 |leave h0 e=>exact .leave h0 e
 |cond st h0 e g j=>exact .cond st h0 e (g.mono h) (j.mono h)
 |table st h0 e g=>exact .table st h0 e (fun k hk=>⟨(g k hk).1.mono h,Nat.lt_of_lt_of_le (g k hk).2.1 hc.1,((hc.2 _ (g k hk).2.1).1).trans (g k hk).2.2⟩)
 |call st h0 hn e g=>exact .call st h0 hn e (g.mono h)
 |drop st t h0 e g=>exact .drop st t h0 e (g.mono h)
 |choose st t h0 e g=>exact .choose st t h0 e (g.mono h)
 |getL h0 hn g=>exact .getL h0 hn (g.mono h)
 |setL st h0 hn e g=>exact .setL st h0 hn e (g.mono h)
 |teeL st h0 hn e g=>exact .teeL st h0 hn e (g.mono h)
 |getG h0 hn g=>exact .getG h0 hn (g.mono h)
 |setG st h0 hn e g=>exact .setG st h0 hn e (g.mono h)
 |plain r st hr h4 e g hn hn'=>exact .plain r st hr h4 e (g.mono h) hn hn'

structure Pend (T:Typing) (lo res:List UInt8) (code:List Ins) (pre:List UInt8) (k:Nat) (b:Bk) (q:Nat):Prop where
 lt:q<code.length
 ht:(code.getD q ins0).height=b.height
 kp:(code.getD q ins0).keep=b.result.length
 ex:T q=none∨ ∃d st,(((code.getD q ins0).op=5∨(code.getD q ins0).op=12)∧T q=some ⟨lo,res,st,d⟩∧((code.getD q ins0).op=5→k<d)∨(code.getD q ins0).op=13∧T q=some ⟨lo,res,st++[127],d⟩∧ ∃d',T (q+1)=some ⟨lo,res,st,d'⟩)∧
  b.height+b.result.length≤st.length∧st.take b.height=pre∧st.drop (st.length -b.result.length)=b.result
theorem Pend.of {T:Typing} {lo res:List UInt8} {code:List Ins} {pre:List UInt8} {k:Nat} {b:Bk} {q:Nat} {y:Ins} (hy:code.getD q ins0=y) (lt:q<code.length) (ht:y.height=b.height) (kp:y.keep=b.result.length)
  (ex:T q=none∨ ∃d st,((y.op=5∨y.op=12)∧T q=some ⟨lo,res,st,d⟩∧(y.op=5→k<d)∨y.op=13∧T q=some ⟨lo,res,st++[127],d⟩∧ ∃d',T (q+1)=some ⟨lo,res,st,d'⟩)∧
   b.height+b.result.length≤st.length∧st.take b.height=pre∧st.drop (st.length -b.result.length)=b.result):Pend T lo res code pre k b q:=by
 subst hy;exact⟨lt,ht,kp,ex⟩
structure BlkOk (T:Typing) (lo res:List UInt8) (code:List Ins) (pre:List UInt8) (k:Nat) (b:Bk):Prop where
 w: ∀q∈b.waits,b.kind≠2∧Pend T lo res code pre k b q
 i:b.kind=3→ ∃q d d',b.start=q+1∧q<code.length∧(code.getD q ins0).op=4∧(code.getD q ins0).height=b.height∧(code.getD q ins0).keep=0∧T q=some ⟨lo,res,pre++[127],d⟩∧T (q+1)=some ⟨lo,res,pre,d'⟩
 l:b.kind=2→ ∃d,T b.start=some ⟨lo,res,pre,d⟩
 z:b.kind=0↔k=0
 r:k=0→b.result=res∧b.height=0
theorem Pend.mono {T T':Typing} (h:TLe T T') {code code':List Ins} (hc:CodeLe code code') (he: ∀q,q<code.length→T' q=T q) {lo res pre:List UInt8} {k:Nat} {b:Bk} {q:Nat} (g:Pend T lo res code pre k b q):Pend T' lo res code' pre k b q:=by
 obtain⟨h1,h2,h3,h0⟩:=g
 obtain⟨c1,c2,c3,c4⟩:=hc.2 q h1
 refine⟨Nat.lt_of_lt_of_le h1 hc.1,c3.trans h2,c4.trans h3,?_⟩
 rw[c1,he q h1]
 rcases h0 with h0|⟨d,st,h4,h5⟩
 ·exact .inl h0
 ·refine .inr ⟨d,st,?_,h5⟩
  rcases h4 with h4|⟨h4,h6,d',h7⟩
  ·exact .inl h4
  ·obtain⟨d2,-,h8⟩:=h _ _ h7
   exact .inr ⟨h4,h6,d2,h8⟩
theorem Pend.like {T:Typing} {code:List Ins} {lo res pre:List UInt8} {k:Nat} {b b':Bk} {q:Nat} (g:Pend T lo res code pre k b q) (hh:b'.height=b.height) (hr:b'.result=b.result):Pend T lo res code pre k b' q:=
 ⟨g.lt,g.ht.trans hh.symm,by rw[g.kp,hr],by rw[hh,hr];exact g.ex⟩
theorem BlkOk.mono {T T':Typing} (h:TLe T T') {code code':List Ins} (hc:CodeLe code code') (he: ∀q,q<code.length→T' q=T q) {lo res pre:List UInt8} {k:Nat} {b:Bk} (g:BlkOk T lo res code pre k b):BlkOk T' lo res code' pre k b:=by
 refine⟨fun q hq=>⟨(g.w q hq).1,(g.w q hq).2.mono h hc he⟩,fun hk=> ?_,fun hk=> ?_,g.z,g.r⟩
 ·obtain⟨q,d,d',h1,h2,h3,h4,h5,h6,h7⟩:=g.i hk
  obtain⟨c1,c2,c3,c4⟩:=hc.2 q h2
  obtain⟨d2,-,h8⟩:=h _ _ h7
  exact⟨q,d,d2,h1,Nat.lt_of_lt_of_le h2 hc.1,c1.trans h3,c3.trans h4,c4.trans h5,(he q h2).trans h6,h8⟩
 ·obtain⟨d,h1⟩:=g.l hk
  obtain⟨d2,-,h8⟩:=h _ _ h1
  exact⟨d2,h8⟩

def curPt (lo res:List UInt8) (s:Bd):Option Pt:=if s.closed=true∨s.blocks.length=0 then none else some ⟨lo,res,s.stack,s.blocks.length⟩
structure TInv (fs:List Ty) (gl:List (UInt8×Bool)) (lo res:List UInt8) (M:Nat) (X:Nat→Prop) (T:Typing) (s:Bd):Prop where
 ins: ∀q p,q<s.code.length→T q=some p→X q∨(∃k,k<s.blocks.length∧(q∈(s.bk k).waits∨((s.bk k).kind=3∧(s.bk k).start=q+1)))∨InsOk fs gl T s.code q p (s.code.getD q ins0)
 cur:T s.code.length=curPt lo res s
 far: ∀q,s.code.length<q→T q=none
 blk: ∀k,k<s.blocks.length→BlkOk T lo res s.code (s.stack.take (s.bk k).height) k (s.bk k)
 bd: ∀q p,T q=some p→p.st.length≤M∧p.dp≤17∧p.lo.length≤32
theorem TInv.read {fs:List Ty} {gl:List (UInt8×Bool)} {lo res:List UInt8} {M:Nat} {X:Nat→Prop} {T:Typing} {s:Bd} (h:TInv fs gl lo res M X T s) (i p:Nat):TInv fs gl lo res M X T {s with i:=i,pos:=p}:=⟨h.ins,h.cur,h.far,h.blk,h.bd⟩

def upd (T:Typing) (q:Nat) (o:Option Pt):Typing:=fun j=>if j=q then o else T j
theorem upd_at (T:Typing) (q:Nat) (o:Option Pt):upd T q o q=o:=if_pos rfl
theorem upd_ne (T:Typing) {q j:Nat} (o:Option Pt) (h:j≠q):upd T q o j=T j:=if_neg h

theorem take_keep {a b:List UInt8} {h k:Nat} (hk:k≤h) (e:a.take h=b.take h):a.take k=b.take k:=by
 have :=congrArg (List.take k) e
 rwa[List.take_take,List.take_take,Nat.min_eq_left hk]at this
end Go.Proofs.YtdeplgkhmebalaaGreatDoor

set_option linter.unusedSimpArgs false
set_option linter.unusedVariables false
namespace Go.Proofs.YtdeplgkhmebalaaGreatDoor
open Go.RowKit

def Lb (n:Nat) (m:Res):Prop:=match m with
 | .ok s=>s.i≤n∧s.pos≤n
 | .error e=>Eb n e
theorem Lb.ok {n:Nat} {m:Res} {s:Bd} (h:Lb n m) (e:m= .ok s):s.i≤n∧s.pos≤n:=by rw[e]at h;exact h
theorem Lb.err {n:Nat} {m:Res} {e:Int×Int} (h:Lb n m) (he:m= .error e):Eb n e:=by rw[he]at h;exact h
theorem tk_ip {s s':Bd} {u:UInt8} (h:takeM s u=some s'):s'.i=s.i∧s'.pos=s.pos:=by rw[(take_spec h).2.2];exact⟨rfl,rfl⟩
theorem tka_ip {s s':Bd} {u:UInt8} (h:takeAnyM s=some (u,s')):s'.i=s.i∧s'.pos=s.pos:=by rw[(takeAny_spec h).2.2];exact⟨rfl,rfl⟩
theorem tkn_ip {ts:List UInt8} (k:Nat): ∀{s s':Bd},takeN ts k s=some s'→s'.i=s.i∧s'.pos=s.pos:=by
 induction k with
 |zero=>intro s s' h;cases h;exact⟨rfl,rfl⟩
 |succ k ih=>
  intro s s' h
  rw[takeN]at h
  split at h
  ·cases h
  ·rename_i s1 h1
   have a:=ih h
   have b:=tk_ip h1
   exact⟨a.1.trans b.1,a.2.trans b.2⟩
theorem tkc_ip {s s':Bd} {k:Nat} (h:carriesM s k=some s'):s'.i=s.i∧s'.pos=s.pos:=by
 unfold carriesM at h
 rw[Option.map_eq_some_iff]at h
 obtain⟨s1,h1,rfl⟩:=h
 show s1.i=s.i∧s1.pos=s.pos
 exact tkn_ip _ h1
theorem jump_ip (s:Bd) (op:UInt8) (k:Nat):(jumpM s op k).i=s.i∧(jumpM s op k).pos=s.pos:=by unfold jumpM;split <;>exact⟨rfl,rfl⟩
theorem jumps_ip (l:List Nat): ∀s:Bd,(jumpAll l s).i=s.i∧(jumpAll l s).pos=s.pos:=by
 induction l with
 |nil=>intro s;exact⟨rfl,rfl⟩
 |cons a l ih=>
  intro s
  have h1:=ih (jumpM s 12 a)
  have h2:=jump_ip s 12 a
  exact⟨h1.1.trans h2.1,h1.2.trans h2.2⟩
section
variable{c:Ctx} {s:Bd} {n:Nat} (hi:s.i≤c.D.length) (hp:s.pos≤c.D.length)
include hi hp
omit hp in
theorem label_err {e:Int×Int} (h:labelM c s= .error e):Eb c.D.length e:=by
 unfold labelM at h
 split at h
 ·rename_i e2 he;cases h;exact(below_rb (D:=c.D) _ hi).err he
 ·cases h
omit hp in
theorem label_ip {k:Nat} {s1:Bd} (h:labelM c s= .ok (k,s1)):s1.i≤c.D.length∧s1.pos=s.pos:=by
 unfold labelM at h
 split at h
 ·cases h
 ·rename_i n j he;cases h;exact⟨(below_rb (D:=c.D) _ hi).ok he,rfl⟩
omit hi hp in
theorem labels_lb (m:Nat): ∀{s:Bd},s.i≤c.D.length→(∀e,labelsM c m s= .error e→Eb c.D.length e)∧ ∀l s1,labelsM c m s= .ok (l,s1)→s1.i≤c.D.length∧s1.pos=s.pos:=by
 induction m with
 |zero=>intro s hi;exact⟨fun e h=>(by cases h),fun l s1 h=>(by cases h;exact⟨hi,rfl⟩)⟩
 |succ m ih=>
  intro s hi
  refine⟨fun e h=> ?_,fun l s1 h=> ?_⟩
  ·rw[labelsM]at h
   split at h
   ·rename_i e2 he;cases h;exact label_err hi he
   ·rename_i k s2 he
    have h2:=label_ip hi he
    split at h
    ·rename_i e3 he3;cases h;exact(ih h2.1).1 _ he3
    ·cases h
  ·rw[labelsM]at h
   split at h
   ·cases h
   ·rename_i k s2 he
    have h2:=label_ip hi he
    split at h
    ·cases h
    ·rename_i l3 s3 he3
     cases h
     have h3:=(ih h2.1).2 _ _ he3
     exact⟨h3.1,h3.2.trans h2.2⟩
theorem special_lb (op:UInt8):Lb c.D.length (specialM c op s):=by
 have hw:Lb c.D.length (wrongM s):=eb3 hp
 unfold specialM
 split
 ·exact⟨hi,hp⟩
 split
 ·unfold openM
  split
  ·rename_i e he;exact(oneOf_rb _ hi).err he
  rename_i t j he
  have hj:=(oneOf_rb _ hi).ok he
  split
  ·exact hw
  rename_i s1 hs1
  split
  ·exact hw
  ·have h1:s1.i=j∧s1.pos=s.pos:=by
    split at hs1
    ·exact tk_ip hs1
    ·cases hs1;exact⟨rfl,rfl⟩
   show s1.i≤_∧s1.pos≤_
   rw[h1.1,h1.2];exact⟨hj,hp⟩
 split
 ·unfold turnM
  split
  ·exact hw
  ·have h1:=jump_ip s 5 (s.blocks.length -1)
   show(jumpM s 5 (s.blocks.length -1)).i≤_∧(jumpM s 5 (s.blocks.length -1)).pos≤_
   rw[h1.1,h1.2];exact⟨hi,hp⟩
 split
 ·unfold endM
  split
  ·exact hw
  ·have h2: ∀s1:Bd,s1=(if s.top.kind=3 then aimM s (s.top.start -1)else s)→s1.i=s.i∧s1.pos=s.pos:=by
    intro s1 e;rw[e];split <;>exact⟨rfl,rfl⟩
   have h3:=h2 _ rfl
   obtain⟨-,-,-,a4,a5,-⟩:=aims_same s.top.waits (if s.top.kind=3 then aimM s (s.top.start -1)else s)
   show(if s.top.kind=0 then emitM _ _ else _:Bd).i≤_∧(if s.top.kind=0 then emitM _ _ else _:Bd).pos≤_
   split
   ·show(aimAll _ _).i≤_∧(aimAll _ _).pos≤_
    rw[a4,a5,h3.1,h3.2];exact⟨hi,hp⟩
   ·rw[a4,a5,h3.1,h3.2];exact⟨hi,hp⟩
 split
 ·unfold branchM
  split
  ·rename_i e he;exact label_err hi he
  rename_i k s1 he
  have h1:=label_ip hi he
  split
  ·exact hw
  rename_i s2 hs2
  have h2:s2.i=s1.i∧s2.pos=s1.pos:=by
   split at hs2
   ·exact tk_ip hs2
   ·cases hs2;exact⟨rfl,rfl⟩
  split
  ·exact hw
  rename_i s3 hs3
  have h3:=tkc_ip hs3
  have h4:=jump_ip s3 op k
  show(jumpM s3 op k).i≤_∧(jumpM s3 op k).pos≤_
  rw[h4.1,h4.2,h3.1,h3.2,h2.1,h2.2,h1.2];exact⟨h1.1,hp⟩
 split
 ·unfold tableM
  split
  ·rename_i e he;exact(below_rb (D:=c.D) _ hi).err he
  rename_i n j he
  have hj:=(below_rb (D:=c.D) _ hi).ok he
  have hl:=labels_lb (c:=c) (n+1) (s:={s with i:=j}) hj
  split
  ·rename_i e he2;exact hl.1 _ he2
  rename_i l s1 he2
  have h1:=hl.2 _ _ he2
  split
  ·exact hw
  rename_i s2 hs2
  have h2:=tk_ip hs2
  split
  ·exact hw
  rename_i s3 hs3
  have h3:=tkc_ip hs3
  split
  ·have h4:=jumps_ip l (emitM s3 ⟨14,n,0,0,0⟩)
   show(jumpAll l (emitM s3 ⟨14,n,0,0,0⟩)).i≤_∧(jumpAll l (emitM s3 ⟨14,n,0,0,0⟩)).pos≤_
   rw[h4.1,h4.2]
   show s3.i≤_∧s3.pos≤_
   rw[h3.1,h3.2,h2.1,h2.2,h1.2];exact⟨h1.1,hp⟩
  ·exact hw
 split
 ·unfold leaveM
  split
  ·exact hw
  rename_i s1 hs1
  have h1:=tkc_ip hs1
  have h2:=jump_ip s1 12 0
  show(jumpM s1 12 0).i≤_∧(jumpM s1 12 0).pos≤_
  rw[h2.1,h2.2,h1.1,h1.2];exact⟨hi,hp⟩
 split
 ·unfold callM
  split
  ·rename_i e he;exact(below_rb (D:=c.D) _ hi).err he
  rename_i n j he
  have hj:=(below_rb (D:=c.D) _ hi).ok he
  split
  ·exact hw
  rename_i s1 hs1
  have h1:=tkn_ip _ hs1
  show s1.i≤_∧s1.pos≤_
  rw[h1.1,h1.2];exact⟨hj,hp⟩
 split
 ·unfold dropM
  split
  ·exact hw
  rename_i hs1
  have h1:=tka_ip hs1
  refine⟨?_,?_⟩
  ·exact h1.1.symm▸hi
  ·exact h1.2.symm▸hp
 split
 ·unfold chooseM
  split
  ·exact hw
  rename_i s1 hs1
  split
  ·exact hw
  rename_i t s2 hs2
  split
  ·exact hw
  rename_i s3 hs3
  have h1:=tk_ip hs1
  have h2:=tka_ip hs2
  have h3:=tk_ip hs3
  show s3.i≤_∧s3.pos≤_
  rw[h3.1,h3.2,h2.1,h2.2,h1.1,h1.2];exact⟨hi,hp⟩
 split
 ·unfold globalM
  split
  ·rename_i e he;exact(below_rb (D:=c.D) _ hi).err he
  rename_i n j he
  have hj:=(below_rb (D:=c.D) _ hi).ok he
  split
  ·split
   ·split
    ·exact hw
    rename_i s1 hs1
    have h1:=tk_ip hs1
    show s1.i≤_∧s1.pos≤_
    rw[h1.1,h1.2];exact⟨hj,hp⟩
   ·exact hw
  ·exact⟨hj,hp⟩
 ·unfold localM
  split
  ·rename_i e he;exact(below_rb (D:=c.D) _ hi).err he
  rename_i n j he
  have hj:=(below_rb (D:=c.D) _ hi).ok he
  split
  ·exact hw
  rename_i s1 hs1
  have h1:s1.i=j∧s1.pos=s.pos:=by
   split at hs1
   ·cases hs1;exact⟨rfl,rfl⟩
   ·exact tk_ip hs1
  have h2: ∀b:Bd,(b=emitM s1 ⟨op,n,0,0,0⟩∨b=putM (emitM s1 ⟨op,n,0,0,0⟩) [c.locals.getD n 0])→b.i≤c.D.length∧b.pos≤c.D.length:=by
   rintro b (e|e)<;>rw[e]<;>show s1.i≤_∧s1.pos≤_<;>rw[h1.1,h1.2]<;>exact⟨hj,hp⟩
  refine h2 _ ?_
  split
  ·exact .inl rfl
  ·exact .inr rfl
omit hp in
theorem step_lb:Lb c.D.length (stepM c s):=by
 unfold stepM
 split
 ·rename_i e he;exact(byte_rb hi).err he
 rename_i op j he
 have hj:=(byte_rb hi).ok he
 split
 ·exact eb2 hi
 rename_i r hr
 split
 ·exact eb3 hi
 split
 ·exact special_lb (s:={s with pos:=s.i,i:=j}) hj hi op
 ·unfold plainB
  split
  ·rename_i e he2;exact(behind_rb _ hj).err he2
  rename_i n j2 he2
  have hj2:=(behind_rb _ hj).ok he2
  split
  ·exact eb3 hi
  rename_i s1 hs1
  have h1:=tkn_ip _ hs1
  show s1.i≤_∧s1.pos≤_
  rw[h1.1,h1.2];exact⟨hj2,hi⟩
end
theorem look_lb {c:Ctx}: ∀(F:Nat) (s:Bd),s.i≤c.D.length→s.pos≤c.D.length→Lb c.D.length (lookM c F s):=by
 intro F
 induction F with
 |zero=>intro s hi hp;exact⟨hi,hp⟩
 |succ F ih=>
  intro s hi hp
  rw[lookM]
  split
  ·split
   ·exact eb2 hi
   ·exact⟨hi,hp⟩
  ·have hs:=step_lb (c:=c) hi
   split
   ·rename_i e he;exact hs.err he
   ·rename_i s1 he
    have :=hs.ok he
    exact ih s1 this.1 this.2
theorem body_rb {D:List UInt8} {fs:List Ty} {gl:List (UInt8×Bool)} {typ:Ty} {code:List Ins} {i:Nat} (h:i≤D.length):Rb D.length (bodyM D fs gl typ code i):=by
 unfold bodyM
 split
 ·rename_i e he;exact(U_rb h).err he
 rename_i size j he
 have hj:=(U_rb h).ok he
 split
 ·exact eb2 h
 rename_i hsz
 simp only
 have hPl:(D.take (j+size)).length=j+size:=by rw[List.length_take];omega
 have hle:(D.take (j+size)).length≤D.length:=by rw[List.length_take];omega
 generalize D.take (j+size)=P at *
 have hjP:j≤P.length:=by omega
 split
 ·rename_i e he2;exact((list_rb _ hjP).err he2).le hle
 rename_i more k he2
 have hk:=(list_rb _ hjP).ok he2
 have hl:=look_lb (c:=⟨P,fs,gl,typ.1++more⟩) 2001 ⟨k,code,[],[⟨0,typ.2,0,0,[]⟩],0,false⟩ hk (Nat.zero_le _)
 split
 ·rename_i e he3;exact(hl.err he3).le hle
 ·show j+size≤D.length
  omega
theorem bodies_rb {D:List UInt8} {fs:List Ty} {gl:List (UInt8×Bool)}: ∀(l:List Ty) (code:List Ins) (i:Nat),i≤D.length→Rb D.length (bodiesM D fs gl l code i):=by
 intro l
 induction l with
 |nil=>intro code i h;exact h
 |cons t l ih=>
  intro code i h
  have hb:=body_rb (fs:=fs) (gl:=gl) (typ:=t) (code:=code) h
  rw[bodiesM]
  split
  ·rename_i e he;exact hb.err he
  rename_i f code1 j he
  have hk:=ih code1 j (hb.ok he)
  split
  ·rename_i e he2;exact hk.err he2
  ·rename_i fs2 code2 k he2;exact hk.ok he2
theorem load_eb {D:List UInt8} {e:Int×Int} (h:loadM D= .error e):Eb D.length e:=by
 unfold loadM at h
 split at h
 ·cases h;exact⟨by decide,by decide,by decide,by show(0:Int)≤(D.length:Int);omega⟩
 split at h
 ·rename_i e1 he;cases h;exact(magic_rb (Nat.zero_le _)).err he
 rename_i i1 h1
 have j1:=(magic_rb (Nat.zero_le _)).ok h1
 split at h
 ·rename_i e1 he;cases h;exact(types_rb j1).err he
 rename_i ts i2 h2
 have j2:=(types_rb j1).ok h2
 split at h
 ·rename_i e1 he;cases h;exact(funcs_rb ts j2).err he
 rename_i fs i3 h3
 have j3:=(funcs_rb ts j2).ok h3
 split at h
 ·rename_i e1 he;cases h;exact(globs_rb j3).err he
 rename_i gs i4 h4
 have j4:=(globs_rb j3).ok h4
 split at h
 ·rename_i e1 he;cases h;exact(below_rb _ j4).err he
 rename_i pages i5 h5
 have j5:=(below_rb _ j4).ok h5
 split at h
 ·rename_i e1 he;cases h;exact(bodies_rb _ _ _ j5).err he
 rename_i fns code i6 h6
 have j6:=(bodies_rb _ _ _ j5).ok h6
 split at h
 ·cases h;exact eb2 j6
 ·cases h
end Go.Proofs.YtdeplgkhmebalaaGreatDoor

set_option linter.unusedSimpArgs false
set_option linter.unusedVariables false
namespace Go.Proofs.YtdeplgkhmebalaaGreatDoor
open Go.RowKit

def Rf.timesR {α:Type} (E:Rf.PE) (most:Int) (one:Rf.PS→α×Rf.PS) (σ:Rf.PS):List α×Rf.PS:=Rf.loopR one (Rf.uM E most σ).1 [] (Rf.uM E most σ).2
def Rf.magicR (E:Rf.PE) (σ:Rf.PS):Rf.PS:=(Rf.needM E 1 1 1 (Rf.needM E 75 75 75 (Rf.needM E 84 84 84 (Rf.needM E 83 83 83 σ).2).2).2).2
def Rf.headR (E:Rf.PE) (σ:Rf.PS):(List Ty×List Ty×List (UInt8×UInt8×Nat)×Nat)×Rf.PS:=
 let ts:=Rf.timesR E 16 (Rf.typeR E) (Rf.magicR E σ)
 let fs:=Rf.timesR E 16 (Rf.funR E ts.1) ts.2
 let gs:=Rf.timesR E 8 (Rf.globR E) fs.2
 ((ts.1,fs.1,gs.1,(Rf.uM E 4 gs.2).1),(Rf.uM E 4 gs.2).2)
def Rf.bodiesR (E:Rf.PE) (funcs:List Ty) (globs:List (UInt8×UInt8×Nat)):List Ty→Rf.PS→Rf.PS
 |[],σ=>σ
 |_::_,.error e=> .error e
 |t::rest,.ok i=>bodiesR E funcs globs rest (Rf.bodyR E funcs globs t i)
def Rf.readR (E:Rf.PE):Except (Int×Int) (List Ty×List Ty×List (UInt8×UInt8×Nat)×Nat):=
 if 2000<E.data.length then .error (1,0)else
 let h:=Rf.headR E (.ok 0)
 match Rf.bodiesR E h.1.2.1 h.1.2.2.1 h.1.2.1 h.2 with
 | .error e=> .error e
 | .ok i=>if i<E.data.length then .error (2,(i:Int))else .ok h.1

theorem bodies_bad (E:Rf.PE) (funcs:List Ty) (globs:List (UInt8×UInt8×Nat)) (l:List Ty) (e:Int×Int):Rf.bodiesR E funcs globs l (.error e)= .error e:=by
 cases l<;>rfl
theorem times_err {α:Type} (E:Rf.PE) (most:Int) (one:Rf.PS→α×Rf.PS) (e:Int×Int):(Rf.timesR E most one (.error e)).2= .error e:=by
 unfold Rf.timesR
 rw[u_err]
 exact loop_bad _ _ _ _
theorem types_ok {D:List UInt8} {i j:Nat} {ts:List Ty} (h:typesM D i= .ok (ts,j)): ∀x∈ts,x.1.length≤8∧x.2.length≤1:=by
 unfold typesM at h
 split at h
 ·cases h
 ·exact(manyM_all typeM_ok _ _ _ _ h).2
theorem funcs_ok {D:List UInt8} {i j:Nat} {ts fs:List Ty} (ht: ∀x∈ts,x.1.length≤8∧x.2.length≤1) (h:funcsM D ts i= .ok (fs,j)): ∀x∈fs,x.1.length≤8∧x.2.length≤1:=by
 unfold funcsM at h
 split at h
 ·cases h
 ·refine(manyM_all (p:=fun x:Ty=>x.1.length≤8∧x.2.length≤1) (fun i x j hx=> ?_) _ _ _ _ h).2
  split at hx
  ·cases hx
  ·rename_i q j' hq
   cases hx
   have hlt:=(below_lt hq).1
   have hm:ts.getD q ([],[])∈ts:=by
    rw[List.getD_eq_getElem?_getD,List.getElem?_eq_getElem (by omega)];exact List.getElem_mem _
   exact ht _ hm
section
variable{E:Rf.PE} {i:Nat} (he:E.en≤E.data.length)
include he
theorem rf_times {α:Type} {one:Rf.PS→α×Rf.PS} {m:Nat→Rd α} (most:Int) (h1: ∀i,i≤E.en→Like (one (.ok i)) (m i)) (h2: ∀i,i≤E.en→Rb E.en (m i)) (hi:i≤E.en):
  Like (Rf.timesR E most one (.ok i)) (match belowM (E.data.take E.en) (most+1) i with | .error e=> .error e| .ok (n,j)=>manyM m n j):=by
 have hu:=rf_u he most hi
 have hr:=below_rb (D:=E.data.take E.en) (i:=i) (most+1) (by rw[rf_len he];exact hi)
 unfold Rf.timesR
 cases hb:belowM (E.data.take E.en) (most+1) i with
 |error e=>
  rw[hu.err hb]
  exact loop_bad _ _ _ _
 |ok x=>
  obtain⟨n,j⟩:=x
  rw[hu.ok hb]
  have hj:=hr.ok hb
  rw[rf_len he]at hj
  have :=loop_like h1 h2 n j [] hj
  simp only
  cases hm:manyM m n j with
  |error e=>rw[hm]at this;exact this
  |ok y=>rw[hm]at this;exact this
theorem rf_magic (hi:i≤E.en):match magicM (E.data.take E.en) i with | .error e=>Rf.magicR E (.ok i)= .error e| .ok (_,j)=>Rf.magicR E (.ok i)= .ok j:=by
 have hn: ∀(a:UInt8) (i:Nat),i≤E.en→Like (Rf.needM E a a a (.ok i)) (oneOfM (E.data.take E.en) [a] i):=fun a i hi=>rf_need he (a:=a) (b:=a) (c:=a) (al:=[a]) (by intro x;simp) hi
 have hr: ∀(a:UInt8) (i:Nat),i≤E.en→ ∀x j,oneOfM (E.data.take E.en) [a] i= .ok (x,j)→j≤E.en:=fun a i hi x j h=>by
  have h1:=(oneOf_rb (D:=E.data.take E.en) (i:=i) [a] (by rw[rf_len he];exact hi)).ok h
  rwa[rf_len he]at h1
 unfold magicM Rf.magicR
 cases h1:oneOfM (E.data.take E.en) [83] i with
 |error e=>simp only[(hn 83 i hi).err h1,need_err]
 |ok x1=>
  obtain⟨x1,j1⟩:=x1
  have k1:=hr 83 i hi _ _ h1
  simp only[(hn 83 i hi).ok h1]
  cases h2:oneOfM (E.data.take E.en) [84] j1 with
  |error e=>simp only[(hn 84 j1 k1).err h2,need_err]
  |ok x2=>
   obtain⟨x2,j2⟩:=x2
   have k2:=hr 84 j1 k1 _ _ h2
   simp only[(hn 84 j1 k1).ok h2]
   cases h3:oneOfM (E.data.take E.en) [75] j2 with
   |error e=>simp only[(hn 75 j2 k2).err h3,need_err]
   |ok x3=>
    obtain⟨x3,j3⟩:=x3
    have k3:=hr 75 j2 k2 _ _ h3
    simp only[(hn 75 j2 k2).ok h3]
    cases h4:oneOfM (E.data.take E.en) [1] j3 with
    |error e=>simp only[(hn 1 j3 k3).err h4]
    |ok x4=>
     obtain⟨x4,j4⟩:=x4
     simp only[(hn 1 j3 k3).ok h4]
end
theorem bodies_agree {E:Rf.PE} (he:E.en=E.data.length) (hl:E.data.length≤2000) (fs:List Ty) (globs:List (UInt8×UInt8×Nat)): ∀(l:List Ty) (code:List Ins) (i:Nat),(∀x∈l,x.1.length≤8∧x.2.length≤1)→i≤E.en→
  Rf.bodiesR E fs globs l (.ok i)=match bodiesM E.data fs (globs.map fun g=>(g.1,g.2.1==1)) l code i with | .error e=> .error e| .ok (_,q)=> .ok q:=by
 intro l
 induction l with
 |nil=>intro code i _ _;rfl
 |cons t rest ih=>
  intro code i hx hi
  rw[Rf.bodiesR,bodiesM]
  have hb:=body_agree he hl (typ:=t) (by have :=(hx t (List.mem_cons_self)).1;omega) fs globs code hi
  have hr:=body_rb (D:=E.data) (fs:=fs) (gl:=globs.map fun g=>(g.1,g.2.1==1)) (typ:=t) (code:=code) (i:=i) (by omega)
  rw[hb]
  cases hm:bodyM E.data fs (globs.map fun g=>(g.1,g.2.1==1)) t code i with
  |error e=>simp only;rw[bodies_bad]
  |ok y=>
   obtain⟨⟨f,code1⟩,j⟩:=y
   have hj:j≤E.data.length:=hr.ok hm
   simp only
   rw[ih code1 j (fun x h=>hx x (List.mem_cons_of_mem _ h)) (by omega)]
   cases bodiesM E.data fs (globs.map fun g=>(g.1,g.2.1==1)) rest code1 j with
   |error e=>rfl
   |ok z=>rfl
end Go.Proofs.YtdeplgkhmebalaaGreatDoor

set_option linter.unusedSimpArgs false
set_option linter.unusedVariables false
set_option maxHeartbeats 1000000
set_option maxRecDepth 100000
namespace Go.Proofs.YtdeplgkhmebalaaGreatDoor.Rf
open Go.RowKit

theorem types_own {w:World} {pb:Nat} {E:PE} {σ:PS} (h:PSt w pb E σ) (n:Nat) (hn:n≤2000):
  Calls Tryz.prog 159 #[ptr pb,.int .i64 n] w fun r w'=> ∃v,r= .returned v∧w'.ownsRow w.heap.size 5 1 v (typesM E n σ).1.length (byteVals (typesM E n σ).1)∧PSt w' pb E (typesM E n σ).2∧Kp (one pb) w w':=by
 obtain⟨i0,hi0,hz0,hz1,hz2⟩:=info_u8'
 obtain⟨_,_,_,_,hb,_⟩:=h.obj
 have hpb:=lt_of_blk hb
 have H:=hide h
 clear hb h
 go_enter Tryz.func159,Tryz.ntmps159
 go_wp2
 go_loopw [5,6] (fun v i wr=> ∃(k:Nat) (l:List UInt8) (σ':PS),k≤n∧i= .int .i64 k∧l.length=k∧wr.ownsRow w.heap.size 5 1 v l.length (byteVals l)∧PSt wr pb E σ'∧Kp (one pb) w wr∧typesGo E (n -k) l σ'=typesM E n σ) (fun _ i _=>n - (intOf i).toNat)
 case atStart=>exact⟨0,[],σ,by omega,rfl,rfl,World.ownsRow_nil _ _ _ _,H.out,Kp.refl _ _,rfl⟩
 case round=>
  obtain⟨k,l,σ',hk,rfl,hlk,hown,hst,hkp,hM⟩:=hrel
  have HO:=hide hown
  have HS:=hide hst
  have HK:=hide hkp
  have HM:=hide hM
  have Hl:=hide hlk
  clear hst hkp hM hlk
  obtain⟨ad,cap,rfl⟩:=own_shape hown
  clear hown
  by_cases hlt:k<n
  ·have hM:=HM.out
   obtain⟨q,hq⟩: ∃q,n -k=q+1:=⟨n -k -1,by omega⟩
   rw[hq,typesGo]at hM
   by_cases hbd:badM σ'=true
   ·rw[if_pos hbd]at hM
    have HM1:=hide hM
    have Hq:=hide hq
    clear hM hq
    go_wp2_with fail
    refine(bad_any HS.out).mono ?_
    rintro e w1 ⟨rfl,rfl⟩
    go_wp2
    go_ret
    rw[←HM1.out]
    exact⟨_,rfl,HO.out,HS.out,HK.out⟩
   ·rw[if_neg hbd]at hM
    simp only[Bool.not_eq_true]at hbd
    have HM1:=hide hM
    have Hq:=hide hq
    clear hM hq
    go_wp2_with fail
    refine(bad_any HS.out).mono ?_
    rintro e w1 ⟨rfl,rfl⟩
    go_wp2_with fail
    refine(need_any HS.out 127 126 126).mono ?_
    rintro e w2 ⟨rfl,h2,k2⟩
    have hM:=HM1.out
    generalize(needM E 127 126 126 σ').1=x at *
    generalize(needM E 127 126 126 σ').2=σ2 at *
    have H2:=hide h2
    have HM2:=hide hM
    have HO2:=hide (k2.own HO.out (fun k hk=>by have :=(own_new HO.out) k hk;intro e;unfold one at e;omega))
    clear h2 hM HM1
    go_wp2_with(at_builtin;refine wpList_append_own _ rfl _ _ 25 rfl w.heap.size 5 i0 (.int .u8 0) 1 1 Tryz.underlying25 hi0 hz0 hz1 hz2 rfl (by decide) _ _ _ rfl (HO2.out.alloc _) ⟨w2.heap.size,0,none⟩ 1 1 [.int .u8 x.toNat] rfl rfl (cell_one_new _ _ _) ?c2 ?c3 ?c4 ?c5 ?_)
    case c2=>intro u hu;simp at hu;subst hu;rfl
    case c3=>unfold maxLen;rw[Hl.out];omega
    case c4=>rw[Hl.out];omega
    case c5=>have :=HK.out.size;have :=k2.size;simp;omega
    intro v' w4 hown4 hgrow _
    have HO4:=hide hown4
    have HG:=hide hgrow
    clear hown4 hgrow
    go_wp2
    go_roundw
    case rel=>
     have kw:Kp (fun k=>w.heap.size≤k) w2 w4:=((Kp.refl (fun k=>w.heap.size≤k) w2).alloc _).grown HG.out (fun k hk=> .inl (own_new HO2.out k hk))
     refine⟨k+1,l++[x],σ2,by omega,by go_num,by simp[Hl.out],?_,H2.out.keep kw (fun k hk=>by omega),(HK.out.trans k2).comp kw (fun _ _ h=>h) (fun k hk h=>by omega),?_⟩
     ·simpa using HO4.out
     ·rw[show n - (k+1)=q by have :=Hq.out;omega];exact HM2.out
    case measure=>simp[intOf];omega
  ·go_wp2
   go_ret
   have hM:=HM.out
   rw[show n -k=0 by omega,typesGo]at hM
   rw[←hM]
   exact⟨_,rfl,HO.out,HS.out,HK.out⟩

structure Bl (w:World) (base:Nat) (tv fv gv v:Value) (l:List UInt8):Prop where
 row:BytesAt w v l
 far: ∀b,v.ownBlock=some b→base≤b∧b<w.heap.size∧tv.ownBlock≠some b∧fv.ownBlock≠some b∧gv.ownBlock≠some b
def TRow (w:World) (base:Nat) (tv fv gv:Value) (sz:Nat) (l:List (List UInt8×List UInt8)) (cells:List Value):Prop:=
 ∀(k:Nat) (x:List UInt8×List UInt8),l[k]? =some x→ ∃pv rv,cells[k*sz]? =some pv∧cells[k*sz+1]? =some rv∧Bl w base tv fv gv pv x.1∧Bl w base tv fv gv rv x.2
def GRow (l:List (UInt8×UInt8×Nat)) (cells:List Value):Prop:=
 ∀(k:Nat) (x:UInt8×UInt8×Nat),l[k]? =some x→cells[k*3]? =some (.int .u8 x.1.toNat)∧cells[k*3+1]? =some (.int .u8 x.2.1.toNat)∧cells[k*3+2]? =some (.int .u64 x.2.2)
structure HdSt (w:World) (pb mb base:Nat) (E:PE) (tv fv gv:Value) (pages:Int) (ts fs:List (List UInt8×List UInt8)) (gs:List (UInt8×UInt8×Nat)) (σ:PS):Prop where
 st:PSt w pb E σ
 pbl:pb<base
 mbl:mb<base
 ne:mb≠pb
 bm:bvB E.b E.data≠some mb
 bs:base≤w.heap.size
 blk:w.heap[mb]? =some (.cells #[tv,fv,gv,.int .i64 pages] 149)
 town: ∃cells,w.ownsRow base 190 2 tv ts.length cells∧TRow w base tv fv gv 2 ts cells
 fown: ∃cells,w.ownsRow base 193 4 fv fs.length cells∧TRow w base tv fv gv 4 fs cells
 gown: ∃cells,w.ownsRow base 198 3 gv gs.length cells∧GRow gs cells
 tf: ∀b,tv.ownBlock=some b→fv.ownBlock≠some b∧gv.ownBlock≠some b
 fg: ∀b,fv.ownBlock=some b→gv.ownBlock≠some b
 tl:ts.length≤16
 tll: ∀x∈ts,x.1.length≤8∧x.2.length≤1
 fl:fs.length≤16
 fll: ∀x∈fs,x.1.length≤8∧x.2.length≤1
 gl:gs.length≤8
theorem Bl.on {S:Nat→Prop} {w w':World} {base:Nat} {tv fv gv tv' fv' gv' v:Value} {l:List UInt8} (h:Bl w base tv fv gv v l) (k:Kp S w w') (hs: ∀b,v.ownBlock=some b→ ¬S b)
  (ht:tv'.ownBlock=tv.ownBlock∨ ∃b,tv'.ownBlock=some b∧w.heap.size≤b) (hf:fv'.ownBlock=fv.ownBlock∨ ∃b,fv'.ownBlock=some b∧w.heap.size≤b) (hg:gv'.ownBlock=gv.ownBlock∨ ∃b,gv'.ownBlock=some b∧w.heap.size≤b):Bl w' base tv' fv' gv' v l:=by
 refine⟨h.row.kp k hs,fun b hb=> ?_⟩
 obtain⟨h1,h2,h3,h4,h5⟩:=h.far b hb
 have hz:=k.size
 have aux: ∀{x x':Value},(x'.ownBlock=x.ownBlock∨ ∃b,x'.ownBlock=some b∧w.heap.size≤b)→x.ownBlock≠some b→x'.ownBlock≠some b:=by
  intro x x' hx hn e
  rcases hx with hx|⟨c,hc,hlt⟩
  ·exact hn (hx▸e)
  ·rw[hc]at e;cases e;omega
 exact⟨h1,by omega,aux ht h3,aux hf h4,aux hg h5⟩
theorem TRow.on {S:Nat→Prop} {w w':World} {base sz:Nat} {tv fv gv tv' fv' gv':Value} {l:List (List UInt8×List UInt8)} {cells:List Value} (h:TRow w base tv fv gv sz l cells) (k:Kp S w w') (hs: ∀b,base≤b→tv.ownBlock≠some b→fv.ownBlock≠some b→gv.ownBlock≠some b→ ¬S b)
  (ht:tv'.ownBlock=tv.ownBlock∨ ∃b,tv'.ownBlock=some b∧w.heap.size≤b) (hf:fv'.ownBlock=fv.ownBlock∨ ∃b,fv'.ownBlock=some b∧w.heap.size≤b) (hg:gv'.ownBlock=gv.ownBlock∨ ∃b,gv'.ownBlock=some b∧w.heap.size≤b):TRow w' base tv' fv' gv' sz l cells:=by
 intro j x hj
 obtain⟨pv,rv,h1,h2,h3,h4⟩:=h j x hj
 exact⟨pv,rv,h1,h2,h3.on k (fun b hb=>by obtain⟨q1,-,q3,q4,q5⟩:=h3.far b hb;exact hs b q1 q3 q4 q5) ht hf hg,h4.on k (fun b hb=>by obtain⟨q1,-,q3,q4,q5⟩:=h4.far b hb;exact hs b q1 q3 q4 q5) ht hf hg⟩
theorem TRow.snoc {w:World} {base sz:Nat} {tv fv gv pv rv:Value} {l:List (List UInt8×List UInt8)} {cells more:List Value} {x:List UInt8×List UInt8} (h:TRow w base tv fv gv sz l cells) (hl:cells.length=l.length*sz) (hp:Bl w base tv fv gv pv x.1) (hr:Bl w base tv fv gv rv x.2) (h0:more[0]? =some pv) (h1:more[1]? =some rv):TRow w base tv fv gv sz (l++[x]) (cells++more):=by
 intro j y hj
 rcases Nat.lt_trichotomy j l.length with hlt|he|hgt
 ·rw[List.getElem?_append_left hlt]at hj
  obtain⟨p,r,q1,q2,q3,q4⟩:=h j y hj
  obtain⟨z1,-⟩:=List.getElem?_eq_some_iff.1 q1
  obtain⟨z2,-⟩:=List.getElem?_eq_some_iff.1 q2
  exact⟨p,r,by rw[List.getElem?_append_left z1];exact q1,by rw[List.getElem?_append_left z2];exact q2,q3,q4⟩
 ·subst he
  rw[List.getElem?_append_right (Nat.le_refl _),Nat.sub_self]at hj
  cases hj
  exact⟨pv,rv,by rw[List.getElem?_append_right (by omega),show l.length*sz -cells.length=0 by omega];exact h0,by rw[List.getElem?_append_right (by omega),show l.length*sz+1 -cells.length=1 by omega];exact h1,hp,hr⟩
 ·rw[List.getElem?_append_right (by omega),List.getElem?_eq_none (by simp;omega)]at hj
  cases hj
theorem GRow.snoc {l:List (UInt8×UInt8×Nat)} {cells:List Value} {x:UInt8×UInt8×Nat} (h:GRow l cells) (hl:cells.length=l.length*3):GRow (l++[x]) (cells++[.int .u8 x.1.toNat,.int .u8 x.2.1.toNat,.int .u64 x.2.2]):=by
 intro j y hj
 rcases Nat.lt_trichotomy j l.length with hlt|he|hgt
 ·rw[List.getElem?_append_left hlt]at hj
  obtain⟨q1,q2,q3⟩:=h j y hj
  obtain⟨z1,-⟩:=List.getElem?_eq_some_iff.1 q1
  obtain⟨z2,-⟩:=List.getElem?_eq_some_iff.1 q2
  obtain⟨z3,-⟩:=List.getElem?_eq_some_iff.1 q3
  exact⟨by rw[List.getElem?_append_left z1];exact q1,by rw[List.getElem?_append_left z2];exact q2,by rw[List.getElem?_append_left z3];exact q3⟩
 ·subst he
  rw[List.getElem?_append_right (Nat.le_refl _),Nat.sub_self]at hj
  cases hj
  exact⟨by rw[List.getElem?_append_right (by omega),show l.length*3 -cells.length=0 by omega];rfl,by rw[List.getElem?_append_right (by omega),show l.length*3+1 -cells.length=1 by omega];rfl,by rw[List.getElem?_append_right (by omega),show l.length*3+2 -cells.length=2 by omega];rfl⟩
 ·rw[List.getElem?_append_right (by omega),List.getElem?_eq_none (by simp;omega)]at hj
  cases hj
theorem PSt.off {S:Nat→Prop} {w w':World} {pb:Nat} {E:PE} {σ:PS} (h:PSt w pb E σ) (k:Kp S w w') (hne: ¬S pb) (hb: ∀b,bvB E.b E.data=some b→ ¬S b):PSt w' pb E σ:=
 ⟨fun i hh=>⟨(h.ok i hh).1,k.blk (h.ok i hh).2 hne⟩,fun e q he=>by
  obtain⟨h0,i,hi,hbb⟩:=h.bad e q he
  exact⟨h0,i,hi,k.blk hbb hne⟩,h.bytes.kp k hb,h.low,h.len,h.en⟩
theorem HdSt.kp {w w':World} {pb mb base:Nat} {E:PE} {tv fv gv:Value} {pages:Int} {ts fs:List (List UInt8×List UInt8)} {gs:List (UInt8×UInt8×Nat)} {σ σ':PS} (h:HdSt w pb mb base E tv fv gv pages ts fs gs σ) (k:Kp (one pb) w w') (s:PSt w' pb E σ'):HdSt w' pb mb base E tv fv gv pages ts fs gs σ':=by
 have hp:=h.pbl
 have hb:=h.bs
 have hz:=k.size
 obtain⟨c1,o1,r1⟩:=h.town
 obtain⟨c2,o2,r2⟩:=h.fown
 obtain⟨c3,o3,r3⟩:=h.gown
 have ho: ∀{e:TypeId} {sz n:Nat} {v:Value} {xs:List Value},w.ownsRow base e sz v n xs→w'.ownsRow base e sz v n xs:=fun o=>k.own o (fun b hb e=>by have :=own_new o b hb;unfold one at e;omega)
 have hr: ∀{sz:Nat} {l:List (List UInt8×List UInt8)} {cells:List Value},TRow w base tv fv gv sz l cells→TRow w' base tv fv gv sz l cells:=fun r=>r.on k (fun b hb _ _ _ e=>by unfold one at e;omega) (.inl rfl) (.inl rfl) (.inl rfl)
 exact⟨s,hp,h.mbl,h.ne,h.bm,by omega,k.blk h.blk h.ne,⟨c1,ho o1,hr r1⟩,⟨c2,ho o2,hr r2⟩,⟨c3,ho o3,r3⟩,h.tf,h.fg,h.tl,h.tll,h.fl,h.fll,h.gl⟩
section
variable{w w':World} {pb mb base:Nat} {E:PE} {tv fv gv:Value} {pages:Int} {ts fs:List (List UInt8×List UInt8)} {gs:List (UInt8×UInt8×Nat)} {σ:PS} (h:HdSt w pb mb base E tv fv gv pages ts fs gs σ)
include h
theorem HdSt.addT {tv' pv rv:Value} {x:List UInt8×List UInt8} {cells:List Value} (k:Kp (fun b=>b=mb∨tv.ownBlock=some b) w w') (hb:w'.heap[mb]? =some (.cells #[tv',fv,gv,.int .i64 pages] 149))
  (hl:cells.length=ts.length*2) (hr:TRow w base tv fv gv 2 ts cells) (ho:w'.ownsRow base 190 2 tv' (ts.length+1) (cells++[pv,rv])) (hat:tv'.ownBlock=tv.ownBlock∨ ∃b,tv'.ownBlock=some b∧w.heap.size≤b)
  (hp:Bl w base tv fv gv pv x.1) (hq:Bl w base tv fv gv rv x.2) (hx:x.1.length≤8∧x.2.length≤1) (h16:ts.length+1≤16):HdSt w' pb mb base E tv' fv gv pages (ts++[x]) fs gs σ:=by
 have hpb:=h.pbl
 have hmb:=h.mbl
 have hbs:=h.bs
 have hz:=k.size
 obtain⟨c1,o1,-⟩:=h.town
 obtain⟨c2,o2,r2⟩:=h.fown
 obtain⟨c3,o3,r3⟩:=h.gown
 have hS: ∀b,base≤b→tv.ownBlock≠some b→ ¬(b=mb∨tv.ownBlock=some b):=fun b h1 h2 e=>by
  rcases e with e|e
  ·omega
  ·exact h2 e
 have hB: ∀{v:Value} {l:List UInt8},Bl w base tv fv gv v l→Bl w' base tv' fv gv v l:=fun hb=>hb.on k (fun b hb'=>hS b (hb.far b hb').1 (hb.far b hb').2.2.1) hat (.inl rfl) (.inl rfl)
 have hT: ∀{sz:Nat} {l:List (List UInt8×List UInt8)} {cells:List Value},TRow w base tv fv gv sz l cells→TRow w' base tv' fv gv sz l cells:=fun r=>r.on k (fun b h1 h2 _ _=>hS b h1 h2) hat (.inl rfl) (.inl rfl)
 have hne: ∀{v:Value},(∀b,v.ownBlock=some b→b<w.heap.size∧tv.ownBlock≠some b)→ ∀b,tv'.ownBlock=some b→v.ownBlock≠some b:=by
  intro v hv b hb e
  obtain⟨q1,q2⟩:=hv b e
  rcases hat with ha|⟨c,hc,hlt⟩
  ·exact q2 (ha▸hb)
  ·rw[hc]at hb;cases hb;omega
 refine⟨h.st.off k (fun e=> ?_) (fun b hb e=> ?_),hpb,hmb,h.ne,h.bm,by omega,hb,⟨_,by rw[List.length_append];exact ho,(hT hr).snoc hl (hB hp) (hB hq) rfl rfl⟩,
  ⟨c2,k.own o2 (fun b hb=>hS b (own_new o2 b hb) (fun e=>(h.tf b e).1 hb)),hT r2⟩,⟨c3,k.own o3 (fun b hb=>hS b (own_new o3 b hb) (fun e=>(h.tf b e).2 hb)),r3⟩,
  fun b hb=>⟨hne (fun c hc=>⟨(o2.lt c hc).2,fun e=>(h.tf c e).1 hc⟩) b hb,hne (fun c hc=>⟨(o3.lt c hc).2,fun e=>(h.tf c e).2 hc⟩) b hb⟩,h.fg,by rw[List.length_append];exact h16,?_,h.fl,h.fll,h.gl⟩
 ·rcases e with e|e
  ·exact h.ne e.symm
  ·have :=own_new o1 pb e;omega
 ·rcases e with e|e
  ·exact h.bm (e▸hb)
  ·have :=h.st.low b hb
   have :=own_new o1 b e
   omega
 ·intro y hy
  rcases List.mem_append.1 hy with hy|hy
  ·exact h.tll y hy
  ·rw[List.mem_singleton]at hy;rw[hy];exact hx
theorem HdSt.addF {fv' pv rv u1 u2:Value} {x:List UInt8×List UInt8} {cells:List Value} (k:Kp (fun b=>b=mb∨fv.ownBlock=some b) w w') (hb:w'.heap[mb]? =some (.cells #[tv,fv',gv,.int .i64 pages] 149))
  (hl:cells.length=fs.length*4) (hr:TRow w base tv fv gv 4 fs cells) (ho:w'.ownsRow base 193 4 fv' (fs.length+1) (cells++[pv,rv,u1,u2])) (hat:fv'.ownBlock=fv.ownBlock∨ ∃b,fv'.ownBlock=some b∧w.heap.size≤b)
  (hp:Bl w base tv fv gv pv x.1) (hq:Bl w base tv fv gv rv x.2) (hx:x.1.length≤8∧x.2.length≤1) (h16:fs.length+1≤16):HdSt w' pb mb base E tv fv' gv pages ts (fs++[x]) gs σ:=by
 have hpb:=h.pbl
 have hmb:=h.mbl
 have hbs:=h.bs
 have hz:=k.size
 obtain⟨c1,o1,r1⟩:=h.town
 obtain⟨c2,o2,-⟩:=h.fown
 obtain⟨c3,o3,r3⟩:=h.gown
 have hS: ∀b,base≤b→fv.ownBlock≠some b→ ¬(b=mb∨fv.ownBlock=some b):=fun b h1 h2 e=>by
  rcases e with e|e
  ·omega
  ·exact h2 e
 have hB: ∀{v:Value} {l:List UInt8},Bl w base tv fv gv v l→Bl w' base tv fv' gv v l:=fun hb=>hb.on k (fun b hb'=>hS b (hb.far b hb').1 (hb.far b hb').2.2.2.1) (.inl rfl) hat (.inl rfl)
 have hT: ∀{sz:Nat} {l:List (List UInt8×List UInt8)} {cells:List Value},TRow w base tv fv gv sz l cells→TRow w' base tv fv' gv sz l cells:=fun r=>r.on k (fun b h1 _ h2 _=>hS b h1 h2) (.inl rfl) hat (.inl rfl)
 have hne: ∀{v:Value},(∀b,v.ownBlock=some b→b<w.heap.size∧fv.ownBlock≠some b)→ ∀b,fv'.ownBlock=some b→v.ownBlock≠some b:=by
  intro v hv b hb e
  obtain⟨q1,q2⟩:=hv b e
  rcases hat with ha|⟨c,hc,hlt⟩
  ·exact q2 (ha▸hb)
  ·rw[hc]at hb;cases hb;omega
 refine⟨h.st.off k (fun e=> ?_) (fun b hb e=> ?_),hpb,hmb,h.ne,h.bm,by omega,hb,⟨c1,k.own o1 (fun b hb=>hS b (own_new o1 b hb) (h.tf b hb).1),hT r1⟩,⟨_,by rw[List.length_append];exact ho,(hT hr).snoc hl (hB hp) (hB hq) rfl rfl⟩,
  ⟨c3,k.own o3 (fun b hb=>hS b (own_new o3 b hb) (fun e=>h.fg b e hb)),r3⟩,
  fun b hb=>⟨fun e=>hne (v:=tv) (fun c hc=>⟨(o1.lt c hc).2,(h.tf c hc).1⟩) b e hb,(h.tf b hb).2⟩,fun b hb=>hne (fun c hc=>⟨(o3.lt c hc).2,fun e=>h.fg c e hc⟩) b hb,h.tl,h.tll,by rw[List.length_append];exact h16,?_,h.gl⟩
 ·rcases e with e|e
  ·exact h.ne e.symm
  ·have :=own_new o2 pb e;omega
 ·rcases e with e|e
  ·exact h.bm (e▸hb)
  ·have :=h.st.low b hb
   have :=own_new o2 b e
   omega
 ·intro y hy
  rcases List.mem_append.1 hy with hy|hy
  ·exact h.fll y hy
  ·rw[List.mem_singleton]at hy;rw[hy];exact hx
theorem HdSt.addG {gv':Value} {x:UInt8×UInt8×Nat} {cells:List Value} (k:Kp (fun b=>b=mb∨gv.ownBlock=some b) w w') (hb:w'.heap[mb]? =some (.cells #[tv,fv,gv',.int .i64 pages] 149))
  (hl:cells.length=gs.length*3) (hr:GRow gs cells) (ho:w'.ownsRow base 198 3 gv' (gs.length+1) (cells++[.int .u8 x.1.toNat,.int .u8 x.2.1.toNat,.int .u64 x.2.2])) (hat:gv'.ownBlock=gv.ownBlock∨ ∃b,gv'.ownBlock=some b∧w.heap.size≤b)
  (h8:gs.length+1≤8):HdSt w' pb mb base E tv fv gv' pages ts fs (gs++[x]) σ:=by
 have hpb:=h.pbl
 have hmb:=h.mbl
 have hbs:=h.bs
 have hz:=k.size
 obtain⟨c1,o1,r1⟩:=h.town
 obtain⟨c2,o2,r2⟩:=h.fown
 obtain⟨c3,o3,-⟩:=h.gown
 have hS: ∀b,base≤b→gv.ownBlock≠some b→ ¬(b=mb∨gv.ownBlock=some b):=fun b h1 h2 e=>by
  rcases e with e|e
  ·omega
  ·exact h2 e
 have hT: ∀{sz:Nat} {l:List (List UInt8×List UInt8)} {cells:List Value},TRow w base tv fv gv sz l cells→TRow w' base tv fv gv' sz l cells:=fun r=>r.on k (fun b h1 _ _ h2=>hS b h1 h2) (.inl rfl) (.inl rfl) hat
 have hne: ∀{v:Value},(∀b,v.ownBlock=some b→b<w.heap.size∧gv.ownBlock≠some b)→ ∀b,v.ownBlock=some b→gv'.ownBlock≠some b:=by
  intro v hv b e hb
  obtain⟨q1,q2⟩:=hv b e
  rcases hat with ha|⟨c,hc,hlt⟩
  ·exact q2 (ha▸hb)
  ·rw[hc]at hb;cases hb;omega
 refine⟨h.st.off k (fun e=> ?_) (fun b hb e=> ?_),hpb,hmb,h.ne,h.bm,by omega,hb,⟨c1,k.own o1 (fun b hb=>hS b (own_new o1 b hb) (h.tf b hb).2),hT r1⟩,⟨c2,k.own o2 (fun b hb=>hS b (own_new o2 b hb) (h.fg b hb)),hT r2⟩,⟨_,by rw[List.length_append];exact ho,hr.snoc hl⟩,
  fun b hb=>⟨(h.tf b hb).1,hne (fun c hc=>⟨(o1.lt c hc).2,(h.tf c hc).2⟩) b hb⟩,fun b hb=>hne (fun c hc=>⟨(o2.lt c hc).2,h.fg c hc⟩) b hb,h.tl,h.tll,h.fl,h.fll,by rw[List.length_append];exact h8⟩
 ·rcases e with e|e
  ·exact h.ne e.symm
  ·have :=own_new o3 pb e;omega
 ·rcases e with e|e
  ·exact h.bm (e▸hb)
  ·have :=h.st.low b hb
   have :=own_new o3 b e
   omega
theorem HdSt.mod:ModAt w pb mb base tv fv gv pages fs gs:=by
 have hpb:=h.pbl
 have hmb:=h.mbl
 obtain⟨c2,o2,r2⟩:=h.fown
 obtain⟨c3,o3,r3⟩:=h.gown
 refine⟨h.ne,h.blk,⟨c2,o2,fun k x hk=> ?_⟩,fun b hb e=>by have :=own_new o2 b hb;omega,fun e=>by have :=own_new o2 mb e;omega,⟨fun b hb e=>by have :=own_new o3 b hb;omega,c3,RowAt.own o3,r3⟩,h.fg,h.fl,h.fll,h.gl⟩
 obtain⟨pv,rv,q1,q2,q3,q4⟩:=r2 k x hk
 exact⟨pv,rv,q1,q2,q3.row,fun b hb e=>by have :=(q3.far b hb).1;omega,q4.row,fun b hb e=>by have :=(q4.far b hb).1;omega,fun b hb=>⟨fun e=>(q3.far b e).2.2.2.1 hb,fun e=>(q4.far b e).2.2.2.1 hb⟩,fun b hb=>by
  rcases hb with hb|hb
  ·exact⟨(q3.far b hb).1,(q3.far b hb).2.1⟩
  ·exact⟨(q4.far b hb).1,(q4.far b hb).2.1⟩⟩
end
theorem RowAt.newRow (w:World) (cs:Array Value) (t:TypeId):RowAt (w.alloc (.cells cs t)) (.slice (some ⟨w.heap.size,0,none⟩) 1 1) cs.size 1 cs.toList:=
 ⟨by simp,.inr ⟨_,0,1,rfl,Nat.le_refl _,fun k u hk=>by rw[Nat.zero_add,(cells_of (heap_alloc_new w _)).1];simpa using hk⟩⟩
end Go.Proofs.YtdeplgkhmebalaaGreatDoor.Rf
