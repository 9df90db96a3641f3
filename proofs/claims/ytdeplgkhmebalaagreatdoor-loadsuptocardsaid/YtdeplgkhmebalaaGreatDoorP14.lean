/- The program's look at a body: what its state holds, and where it lies. -/
import Derived.Test.YtdeplgkhmebalaaGreatDoorP03
import Derived.Test.YtdeplgkhmebalaaGreatDoorP12

set_option linter.unusedSimpArgs false
set_option linter.unusedVariables false
namespace Go.Proofs.YtdeplgkhmebalaaGreatDoor
open Go.RowKit

section
variable{α:Type} {f:α→List Value} {n:Nat}
theorem flat_len (h: ∀a,(f a).length=n) (l:List α):(l.flatMap f).length=l.length*n:=by
 induction l with
 |nil=>simp
 |cons a l ih=>rw[List.flatMap_cons,List.length_append,ih,h,List.length_cons,Nat.succ_mul,Nat.add_comm]
theorem flat_get (h: ∀a,(f a).length=n) (l:List α) (k j:Nat) (hj:j<n):(l.flatMap f)[k*n+j]? =(l[k]?).bind (fun a=>(f a)[j]?):=by
 induction l generalizing k with
 |nil=>simp
 |cons a l ih=>
  cases k with
  |zero=>rw[List.flatMap_cons,Nat.zero_mul,Nat.zero_add,List.getElem?_append_left (by rw[h];exact hj)];rfl
  |succ k=>
   rw[List.flatMap_cons,List.getElem?_append_right (by rw[h,Nat.succ_mul];omega),h,show(k+1)*n+j -n=k*n+j by rw[Nat.succ_mul];omega,ih];rfl
theorem flat_set (h: ∀a,(f a).length=n) (l:List α) (k j:Nat) (hj:j<n) (a a':α) (v:Value) (hk:l[k]? =some a) (ha:f a'=(f a).set j v):(l.flatMap f).set (k*n+j) v=(l.set k a').flatMap f:=by
 induction l generalizing k with
 |nil=>simp at hk
 |cons b l ih=>
  cases k with
  |zero=>
   cases hk
   rw[List.flatMap_cons,Nat.zero_mul,Nat.zero_add,List.set_append_left _ _ (by rw[h];exact hj),List.set_cons_zero,List.flatMap_cons,ha]
  |succ k=>
   rw[List.flatMap_cons,List.set_append_right _ _ (by rw[h,Nat.succ_mul];omega),h,show(k+1)*n+j -n=k*n+j by rw[Nat.succ_mul];omega,ih k hk,List.set_cons_succ,List.flatMap_cons]
theorem flat_take (h: ∀a,(f a).length=n) (l:List α) (k:Nat):(l.take k).flatMap f=(l.flatMap f).take (k*n):=by
 induction l generalizing k with
 |nil=>simp
 |cons b l ih=>
  cases k with
  |zero=>simp
  |succ k=>
   have e:(k+1)*n=n+k*n:=by rw[Nat.succ_mul,Nat.add_comm]
   rw[List.take_succ_cons,List.flatMap_cons,ih,List.flatMap_cons,List.take_append,h,e,Nat.add_sub_cancel_left,List.take_of_length_le (l:=f b) (by rw[h];omega)]
end

structure Ins where
 op:UInt8
 num:Nat
 goal:Nat
 height:Nat
 keep:Nat
def Ins.cells (x:Ins):List Value:=[.int .u8 x.op.toNat,.int .u64 x.num,.int .i64 x.goal,.int .i64 x.height,.int .i64 x.keep]
theorem Ins.len (x:Ins):x.cells.length=5:=rfl

abbrev Ty:=List UInt8×List UInt8

structure Bk where
 kind:Nat
 result:List UInt8
 height:Nat
 start:Nat
 waits:List Nat
abbrev BkV:=Bk×Value×Value
def bkCells (x:BkV):List Value:=[.int .i64 x.1.kind,x.2.1,.int .i64 x.1.height,.int .i64 x.1.start,x.2.2]
theorem bkLen (x:BkV):(bkCells x).length=5:=rfl

structure Ctx where
 D:List UInt8
 funcs:List Ty
 gl:List (UInt8×Bool)
 locals:List UInt8

structure Env where
 B:Nat
 rb:Nat
 bb:Nat
 mb:Nat
 dv:Value
 fv:Value
 glv:Value
 gv:Value
 lv:Value
 ro:Nat→Prop
 pages:Nat
 c:Ctx

structure Bd where
 i:Nat
 code:List Ins
 stack:List UInt8
 blocks:List Bk
 pos:Nat
 closed:Bool

def RoV (ro:Nat→Prop) (v:Value):Prop:= ∀b,v.ownBlock=some b→ro b

def TypesAt (w:World) (ro:Nat→Prop) (v:Value) (st:Nat) (ts:List Ty):Prop:=
 ∃ad cap,v= .slice ad ts.length cap∧ts.length≤cap∧ ∀k,k<ts.length→ ∃a o pv rv,ad=some ⟨a,o,none⟩∧ro a∧w.cell? ⟨a,o+k*st,none⟩=some pv∧w.cell? ⟨a,o+k*st+1,none⟩=some rv∧
  BytesAt w pv (ts.getD k ([],[])).1∧RoV ro pv∧BytesAt w rv (ts.getD k ([],[])).2∧RoV ro rv
def GlobsAt (w:World) (ro:Nat→Prop) (v:Value) (gs:List (UInt8×Bool)):Prop:=
 ∃ad cap,v= .slice ad gs.length cap∧gs.length≤cap∧ ∀k,k<gs.length→ ∃a o,ad=some ⟨a,o,none⟩∧ro a∧w.cell? ⟨a,o+k*2,none⟩=some (.int .u8 (gs.getD k (0,false)).1.toNat)∧w.cell? ⟨a,o+k*2+1,none⟩=some (.bool (gs.getD k (0,false)).2)

abbrev nro (ro:Nat→Prop):Nat→Prop:=fun k=> ¬ro k

theorem BytesAt.ro {ro:Nat→Prop} {w w':World} {v:Value} {l:List UInt8} (h:BytesAt w v l) (hr:RoV ro v) (k:Kp (nro ro) w w'):BytesAt w' v l:=h.kp k (fun b hb hn=>hn (hr b hb))
theorem TypesAt.kp {ro:Nat→Prop} {w w':World} {v:Value} {st:Nat} {ts:List Ty} (h:TypesAt w ro v st ts) (k:Kp (nro ro) w w'):TypesAt w' ro v st ts:=by
 obtain⟨ad,cap,hv,hc,hk⟩:=h
 refine⟨ad,cap,hv,hc,fun j hj=> ?_⟩
 obtain⟨a,o,pv,rv,had,hro,h1,h2,h3,h4,h5,h6⟩:=hk j hj
 exact⟨a,o,pv,rv,had,hro,k.cell h1 (fun hn=>hn hro),k.cell h2 (fun hn=>hn hro),h3.ro h4 k,h4,h5.ro h6 k,h6⟩
theorem GlobsAt.kp {ro:Nat→Prop} {w w':World} {v:Value} {gs:List (UInt8×Bool)} (h:GlobsAt w ro v gs) (k:Kp (nro ro) w w'):GlobsAt w' ro v gs:=by
 obtain⟨ad,cap,hv,hc,hk⟩:=h
 refine⟨ad,cap,hv,hc,fun j hj=> ?_⟩
 obtain⟨a,o,had,hro,h1,h2⟩:=hk j hj
 exact⟨a,o,had,hro,k.cell h1 (fun hn=>hn hro),k.cell h2 (fun hn=>hn hro)⟩

structure Env.Ok (E:Env) (w:World):Prop where
 base:E.B≤w.heap.size
 dv:RoV E.ro E.dv
 funcs:TypesAt w E.ro E.fv 4 E.c.funcs
 gl:GlobsAt w E.ro E.gv E.c.gl
 locals:BytesAt w E.lv E.c.locals
 lv:RoV E.ro E.lv
 nf:E.c.funcs.length≤16
 ng:E.c.gl.length≤8
 nl:E.c.locals.length≤32
 res: ∀k,k<E.c.funcs.length→(E.c.funcs.getD k ([],[])).1.length≤8∧(E.c.funcs.getD k ([],[])).2.length≤1
theorem Env.Ok.kp {E:Env} {w w':World} (h:E.Ok w) (k:Kp (nro E.ro) w w'):E.Ok w':=
 ⟨Nat.le_trans h.base k.size,h.dv,h.funcs.kp k,h.gl.kp k,h.locals.ro h.lv k,h.lv,h.nf,h.ng,h.nl,h.res⟩

abbrev bodyObj (E:Env) (g:Nat) (s:Bd) (sv:Value) (kc:Nat):Obj:= .cells #[ptrTo E.rb,ptrTo E.mb,E.gv,E.lv,sv,.slice (some ⟨g,0,none⟩) s.blocks.length kc,.int .i64 s.pos,.bool s.closed] 263
abbrev modObj (E:Env) (cv:Value):Obj:= .cells #[E.fv,E.glv,.int .i64 E.pages,cv] 121

structure BStG (E:Env) (g:Nat) (w:World) (s:Bd) (role:Nat→Nat) (sv cv:Value) (kc:Nat) (bs:List BkV):Prop where
 env:E.Ok w
 rd:RSt w E.rb E.dv E.c.D s.i
 body:w.heap[E.bb]? =some (bodyObj E g s sv kc)
 mod:w.heap[E.mb]? =some (modObj E cv)
 stack:w.ownsRow E.B 5 1 sv s.stack.length (s.stack.map fun c=> .int .u8 c.toNat)
 blocks:w.ownsRow E.B 298 5 (.slice (some ⟨g,0,none⟩) s.blocks.length kc) s.blocks.length (bs.flatMap bkCells)
 code:w.ownsRow E.B 214 5 cv s.code.length (s.code.flatMap Ins.cells)
 eq:s.blocks=bs.map (·.1)
 waits: ∀(k:Nat) (x:BkV),bs[k]? =some x→w.ownsRow E.B 3 1 x.2.2 x.1.waits.length (x.1.waits.map fun n=>Value.int .i64 ((n:Nat):Int))
 results: ∀(k:Nat) (x:BkV),bs[k]? =some x→BytesAt w x.2.1 x.1.result
 r1:role E.rb=1
 r2:role E.mb=2
 r3:role E.bb=3
 r4: ∀b,sv.ownBlock=some b→role b=4
 r5:role g=5
 r6: ∀b,cv.ownBlock=some b→role b=6
 rw : ∀(k:Nat) (x:BkV),bs[k]? =some x→ ∀b,x.2.2.ownBlock=some b→role b=100+k
 rr: ∀(k:Nat) (x:BkV),bs[k]? =some x→RoV (fun b=>role b=0∧b<w.heap.size) x.2.1
 ro: ∀b,E.ro b→role b=0
 lt: ∀b,E.ro b→b<w.heap.size

def BSt (E:Env) (g:Nat) (w:World) (s:Bd):Prop:= ∃role sv cv kc bs,BStG E g w s role sv cv kc bs

def newRole (role:Nat→Nat) (n z:Nat):Nat→Nat:=fun k=>if k<n then role k else z

theorem newRole_old {role:Nat→Nat} {n z k:Nat} (h:k<n):newRole role n z k=role k:=if_pos h
theorem newRole_new {role:Nat→Nat} {n z k:Nat} (h:n≤k):newRole role n z k=z:=if_neg (by omega)

theorem own_lt {w:World} {base:Nat} {e:TypeId} {sz:Nat} {v:Value} {n:Nat} {xs:List Value} (h:w.ownsRow base e sz v n xs) {b:Nat} (hb:v.ownBlock=some b):b<w.heap.size:=(h.lt b hb).2

theorem RowAt.kpR {X:Nat→Prop} {role:Nat→Nat} {w w':World} {v:Value} {sz n:Nat} {xs:List Value} (h:RowAt w v sz n xs) (k:Kp (fun b=>X (role b)) w w') (h0: ¬X 0) {q:Nat} (hr:RoV (fun b=>role b=0∧b<q) v):RowAt w' v sz n xs:=
 h.kp k (fun b hb hx=>h0 (by rw[←(hr b hb).1];exact hx))

section
variable{E:Env} {g:Nat} {w w':World} {s:Bd} {role:Nat→Nat} {sv cv:Value} {kc:Nat} {bs:List BkV} {X:Nat→Prop}
theorem BStG.nro (h:BStG E g w s role sv cv kc bs) (k:Kp (fun b=>X (role b)) w w') (h0: ¬X 0):Kp (nro E.ro) w w':=k.mono (fun b _ hx hr=>h0 (by rw[←h.ro b hr];exact hx))
theorem BStG.kEnv (h:BStG E g w s role sv cv kc bs) (k:Kp (fun b=>X (role b)) w w') (h0: ¬X 0):E.Ok w':=h.env.kp (h.nro k h0)
theorem BStG.kRd (h:BStG E g w s role sv cv kc bs) (k:Kp (fun b=>X (role b)) w w') (h0: ¬X 0) (h1: ¬X 1):RSt w' E.rb E.dv E.c.D s.i:=
 h.rd.kp k (fun hx=>h1 (by rw[←h.r1];exact hx)) (fun b hb _ hx=>h0 (by rw[←h.ro b (h.env.dv b hb)];exact hx))
theorem BStG.kBody (h:BStG E g w s role sv cv kc bs) (k:Kp (fun b=>X (role b)) w w') (h1: ¬X 3):w'.heap[E.bb]? =some (bodyObj E g s sv kc):=k.blk h.body (fun hx=>h1 (by rw[←h.r3];exact hx))
theorem BStG.kMod (h:BStG E g w s role sv cv kc bs) (k:Kp (fun b=>X (role b)) w w') (h1: ¬X 2):w'.heap[E.mb]? =some (modObj E cv):=k.blk h.mod (fun hx=>h1 (by rw[←h.r2];exact hx))
theorem BStG.kStack (h:BStG E g w s role sv cv kc bs) (k:Kp (fun b=>X (role b)) w w') (h1: ¬X 4):w'.ownsRow E.B 5 1 sv s.stack.length (s.stack.map fun c=> .int .u8 c.toNat):=k.own h.stack (fun b hb hx=>h1 (by rw[←h.r4 b hb];exact hx))
theorem BStG.kBlocks (h:BStG E g w s role sv cv kc bs) (k:Kp (fun b=>X (role b)) w w') (h1: ¬X 5):w'.ownsRow E.B 298 5 (.slice (some ⟨g,0,none⟩) s.blocks.length kc) s.blocks.length (bs.flatMap bkCells):=
 k.own h.blocks (fun b hb hx=>h1 (by cases hb;rw[←h.r5];exact hx))
theorem BStG.kCode (h:BStG E g w s role sv cv kc bs) (k:Kp (fun b=>X (role b)) w w') (h1: ¬X 6):w'.ownsRow E.B 214 5 cv s.code.length (s.code.flatMap Ins.cells):=k.own h.code (fun b hb hx=>h1 (by rw[←h.r6 b hb];exact hx))
theorem BStG.kWaits (h:BStG E g w s role sv cv kc bs) (k:Kp (fun b=>X (role b)) w w') (j:Nat) (x:BkV) (hj:bs[j]? =some x) (h1: ¬X (100+j)):w'.ownsRow E.B 3 1 x.2.2 x.1.waits.length (x.1.waits.map fun n=>Value.int .i64 ((n:Nat):Int)):=
 k.own (h.waits j x hj) (fun b hb hx=>h1 (by rw[←h.rw j x hj b hb];exact hx))
theorem BStG.kResults (h:BStG E g w s role sv cv kc bs) (k:Kp (fun b=>X (role b)) w w') (h0: ¬X 0) (j:Nat) (x:BkV) (hj:bs[j]? =some x):BytesAt w' x.2.1 x.1.result:=RowAt.kpR (h.results j x hj) k h0 (h.rr j x hj)

theorem BStG.kRr (h:BStG E g w s role sv cv kc bs) (k:Kp (fun b=>X (role b)) w w') (j:Nat) (x:BkV) (hj:bs[j]? =some x):RoV (fun b=>role b=0∧b<w'.heap.size) x.2.1:=fun b hb=>⟨(h.rr j x hj b hb).1,Nat.lt_of_lt_of_le (h.rr j x hj b hb).2 k.size⟩
theorem BStG.kLt (h:BStG E g w s role sv cv kc bs) (k:Kp (fun b=>X (role b)) w w') (b:Nat) (hb:E.ro b):b<w'.heap.size:=Nat.lt_of_lt_of_le (h.lt b hb) k.size

theorem BStG.rerole (h:BStG E g w s role sv cv kc bs) {role':Nat→Nat} (hr: ∀k,k<w.heap.size→role' k=role k):BStG E g w s role' sv cv kc bs:=
 ⟨h.env,h.rd,h.body,h.mod,h.stack,h.blocks,h.code,h.eq,h.waits,h.results,(hr _ (lt_of_blk h.rd.blk)).trans h.r1,(hr _ (lt_of_blk h.mod)).trans h.r2,(hr _ (lt_of_blk h.body)).trans h.r3,
  fun b hb=>(hr b (own_lt h.stack hb)).trans (h.r4 b hb),(hr g (own_lt h.blocks rfl)).trans h.r5,fun b hb=>(hr b (own_lt h.code hb)).trans (h.r6 b hb),
  fun k x hk b hb=>(hr b (own_lt (h.waits k x hk) hb)).trans (h.rw k x hk b hb),fun k x hk b hb=>⟨(hr b (h.rr k x hk b hb).2).trans (h.rr k x hk b hb).1,(h.rr k x hk b hb).2⟩,fun b hb=>(hr b (h.lt b hb)).trans (h.ro b hb),h.lt⟩
theorem BStG.renew (h:BStG E g w s role sv cv kc bs) (z:Nat):BStG E g w s (newRole role w.heap.size z) sv cv kc bs:=h.rerole (fun _ hk=>newRole_old hk)

theorem BStG.setRd (h:BStG E g w s role sv cv kc bs) (k:Kp (one E.rb) w w') {j:Nat} (hr:RSt w' E.rb E.dv E.c.D j):BStG E g w' {s with i:=j} role sv cv kc bs:=by
 have k':Kp (fun b=>(fun r=>r=1) (role b)) w w':=k.mono (fun b _ (hb:b=E.rb)=>by rw[hb];exact h.r1)
 exact⟨h.kEnv (X:=(fun r=>r=1)) k' (by decide),hr,(h.kBody (X:=(fun r=>r=1)) k' (by decide):),(h.kMod (X:=(fun r=>r=1)) k' (by decide):),(h.kStack (X:=(fun r=>r=1)) k' (by decide):),(h.kBlocks (X:=(fun r=>r=1)) k' (by decide):),(h.kCode (X:=(fun r=>r=1)) k' (by decide):),h.eq,fun j x hj=>h.kWaits (X:=(fun r=>r=1)) k' j x hj (by omega),h.kResults (X:=(fun r=>r=1)) k' (by decide),
  h.r1,h.r2,h.r3,h.r4,h.r5,h.r6,h.rw,h.kRr (X:=(fun r=>r=1)) k',h.ro,h.kLt (X:=(fun r=>r=1)) k'⟩
theorem BStG.quiet (h:BStG E g w s role sv cv kc bs) (k:Kp no w w'):BStG E g w' s role sv cv kc bs:=by
 have k':Kp (fun b=>(fun _=>False) (role b)) w w':=k
 exact⟨h.kEnv (X:=(fun _=>False)) k' (fun h=>h),(h.kRd (X:=(fun _=>False)) k' (fun h=>h) (fun h=>h):),(h.kBody (X:=(fun _=>False)) k' (fun h=>h):),(h.kMod (X:=(fun _=>False)) k' (fun h=>h):),(h.kStack (X:=(fun _=>False)) k' (fun h=>h):),(h.kBlocks (X:=(fun _=>False)) k' (fun h=>h):),(h.kCode (X:=(fun _=>False)) k' (fun h=>h):),h.eq,fun j x hj=>h.kWaits (X:=(fun _=>False)) k' j x hj (fun h=>h),h.kResults (X:=(fun _=>False)) k' (fun h=>h),
  h.r1,h.r2,h.r3,h.r4,h.r5,h.r6,h.rw,h.kRr (X:=(fun _=>False)) k',h.ro,h.kLt (X:=(fun _=>False)) k'⟩
theorem BStG.setStack (h:BStG E g w s role sv cv kc bs) {l:List UInt8} {sv':Value} (k:Kp (fun b=>(fun r=>r=3∨r=4) (role b)) w w') (hb:w'.heap[E.bb]? =some (bodyObj E g s sv' kc))
  (ho:w'.ownsRow E.B 5 1 sv' l.length (l.map fun c=> .int .u8 c.toNat)) (hr: ∀b,sv'.ownBlock=some b→role b=4):BStG E g w' {s with stack:=l} role sv' cv kc bs:=
 ⟨h.kEnv (X:=(fun r=>r=3∨r=4)) k (by decide),(h.kRd (X:=(fun r=>r=3∨r=4)) k (by decide) (by decide):),hb,(h.kMod (X:=(fun r=>r=3∨r=4)) k (by decide):),ho,(h.kBlocks (X:=(fun r=>r=3∨r=4)) k (by decide):),(h.kCode (X:=(fun r=>r=3∨r=4)) k (by decide):),h.eq,fun j x hj=>h.kWaits (X:=(fun r=>r=3∨r=4)) k j x hj (by omega),h.kResults (X:=(fun r=>r=3∨r=4)) k (by decide),
  h.r1,h.r2,h.r3,hr,h.r5,h.r6,h.rw,h.kRr (X:=(fun r=>r=3∨r=4)) k,h.ro,h.kLt (X:=(fun r=>r=3∨r=4)) k⟩
theorem BStG.setCode (h:BStG E g w s role sv cv kc bs) {l:List Ins} {cv':Value} (k:Kp (fun b=>(fun r=>r=2∨r=6) (role b)) w w') (hb:w'.heap[E.mb]? =some (modObj E cv'))
  (ho:w'.ownsRow E.B 214 5 cv' l.length (l.flatMap Ins.cells)) (hr: ∀b,cv'.ownBlock=some b→role b=6):BStG E g w' {s with code:=l} role sv cv' kc bs:=
 ⟨h.kEnv (X:=(fun r=>r=2∨r=6)) k (by decide),(h.kRd (X:=(fun r=>r=2∨r=6)) k (by decide) (by decide):),(h.kBody (X:=(fun r=>r=2∨r=6)) k (by decide):),hb,(h.kStack (X:=(fun r=>r=2∨r=6)) k (by decide):),(h.kBlocks (X:=(fun r=>r=2∨r=6)) k (by decide):),ho,h.eq,fun j x hj=>h.kWaits (X:=(fun r=>r=2∨r=6)) k j x hj (by omega),h.kResults (X:=(fun r=>r=2∨r=6)) k (by decide),
  h.r1,h.r2,h.r3,h.r4,h.r5,hr,h.rw,h.kRr (X:=(fun r=>r=2∨r=6)) k,h.ro,h.kLt (X:=(fun r=>r=2∨r=6)) k⟩
theorem BStG.setPos (h:BStG E g w s role sv cv kc bs) {p:Nat} {c:Bool} (k:Kp (fun b=>(fun r=>r=3) (role b)) w w') (hb:w'.heap[E.bb]? =some (bodyObj E g {s with pos:=p,closed:=c} sv kc)):BStG E g w' {s with pos:=p,closed:=c} role sv cv kc bs:=
 ⟨h.kEnv (X:=(fun r=>r=3)) k (by decide),(h.kRd (X:=(fun r=>r=3)) k (by decide) (by decide):),hb,(h.kMod (X:=(fun r=>r=3)) k (by decide):),(h.kStack (X:=(fun r=>r=3)) k (by decide):),(h.kBlocks (X:=(fun r=>r=3)) k (by decide):),(h.kCode (X:=(fun r=>r=3)) k (by decide):),h.eq,fun j x hj=>h.kWaits (X:=(fun r=>r=3)) k j x hj (by omega),h.kResults (X:=(fun r=>r=3)) k (by decide),
  h.r1,h.r2,h.r3,h.r4,h.r5,h.r6,h.rw,h.kRr (X:=(fun r=>r=3)) k,h.ro,h.kLt (X:=(fun r=>r=3)) k⟩
end

end Go.Proofs.YtdeplgkhmebalaaGreatDoor
