/- What a call of the program does to memory, said of blocks: helpers of the proof, no statement. -/
import Derived.WalkKit
import Derived.WalkSpells
import Derived.WalkLawsBesides
import Derived.Deep.QuietTactic
import Derived.BigQuiet
import Derived.BigRegion
import Derived.Deep.DeepCutAuto
import Derived.Deep.CutBlock
import Derived.Deep.LoopGhost
import Derived.Deep.Light

set_option linter.unusedSimpArgs false
set_option linter.unusedVariables false
namespace Go.Proofs.YtdeplgkhmebalaaGreatDoor
open Go.RowKit

structure Kp (S:Nat→Prop) (w w':World):Prop where
 os:w'.os=w.os
 tape:w'.tape=w.tape
 output:w'.output=w.output
 size:w.heap.size≤w'.heap.size
 block: ∀k,k<w.heap.size→ ¬S k→w'.heap[k]? =w.heap[k]?

theorem lt_of_blk {w:World} {k:Nat} {o:Obj} (h:w.heap[k]? =some o):k<w.heap.size:=by
 rcases Nat.lt_or_ge k w.heap.size with h1|h1
 ·exact h1
 ·rw[Array.getElem?_eq_none h1]at h;cases h

theorem Kp.refl (S:Nat→Prop) (w:World):Kp S w w:=⟨rfl,rfl,rfl,Nat.le_refl _,fun _ _ _=>rfl⟩
theorem Kp.comp {S S1 S2:Nat→Prop} {a b c:World} (h1:Kp S1 a b) (h2:Kp S2 b c) (H1: ∀k,k<a.heap.size→S1 k→S k) (H2: ∀k,k<a.heap.size→S2 k→S k):Kp S a c:=
 ⟨h2.os.trans h1.os,h2.tape.trans h1.tape,h2.output.trans h1.output,Nat.le_trans h1.size h2.size,fun k hk hs=>
  (h2.block k (Nat.lt_of_lt_of_le hk h1.size) (fun h=>hs (H2 k hk h))).trans (h1.block k hk (fun h=>hs (H1 k hk h)))⟩
theorem Kp.trans {S:Nat→Prop} {a b c:World} (h1:Kp S a b) (h2:Kp S b c):Kp S a c:=h1.comp h2 (fun _ _ h=>h) (fun _ _ h=>h)
theorem Kp.mono {S S':Nat→Prop} {a b:World} (h:Kp S a b) (H: ∀k,k<a.heap.size→S k→S' k):Kp S' a b:=⟨h.os,h.tape,h.output,h.size,fun k hk hs=>h.block k hk (fun e=>hs (H k hk e))⟩
theorem Kp.drew {S:Nat→Prop} {a b:World} (h:Kp S a b):Kp S a b.drew:=⟨h.os,h.tape,h.output,h.size,h.block⟩
theorem Kp.drewN {S:Nat→Prop} {a b:World} (h:Kp S a b) (n:Nat):Kp S a (b.drewN n):=⟨h.os,h.tape,h.output,h.size,h.block⟩
theorem Kp.setCell {S:Nat→Prop} {a b:World} (h:Kp S a b) {p:Addr} (hp:S p.block∨a.heap.size≤p.block) (u:Value):Kp S a (b.setCell p u):=
 ⟨h.os,h.tape,h.output,by simpa[World.setCell]using h.size,fun k hk hs=>(Below.heap_setCell _ _ _ _ (by
  rintro rfl;rcases hp with hp|hp
  ·exact hs hp
  ·omega)).trans (h.block k hk hs)⟩
theorem Kp.alloc {S:Nat→Prop} {a b:World} (h:Kp S a b) (o:Obj):Kp S a (b.alloc o):=
 ⟨h.os,h.tape,h.output,by have :=h.size;simp;omega,fun k hk hs=>(Below.heap_alloc _ _ _ (Nat.lt_of_lt_of_le hk h.size)).trans (h.block k hk hs)⟩
theorem Kp.grown {S:Nat→Prop} {a b c:World} {row:Option Nat} (h:Kp S a b) (g:b.grownBy c row) (hr: ∀k,row=some k→S k∨a.heap.size≤k):Kp S a c:=
 ⟨g.os.trans h.os,g.tape.trans h.tape,g.output.trans h.output,Nat.le_trans h.size g.size,fun k hk hs=>(g.block k (Nat.lt_of_lt_of_le hk h.size) (fun e=>by
  rcases hr k e.symm with h1|h1
  ·exact hs h1
  ·omega)).trans (h.block k hk hs)⟩
theorem Kp.blk {S:Nat→Prop} {a b:World} (h:Kp S a b) {k:Nat} {o:Obj} (hk:a.heap[k]? =some o) (hs: ¬S k):b.heap[k]? =some o:=(h.block k (lt_of_blk hk) hs).trans hk
theorem Kp.cell {S:Nat→Prop} {a b:World} (h:Kp S a b) {p:Addr} {v:Value} (hk:a.cell? p=some v) (hs: ¬S p.block):b.cell? p=some v:=by
 rw[←hk]
 refine World.cell?_of_block (h.block _ ?_ hs)
 rcases Nat.lt_or_ge p.block a.heap.size with h1|h1
 ·exact h1
 ·rw[World.cell?,Array.getElem?_eq_none h1]at hk;cases hk
theorem Kp.below {S:Nat→Prop} {a b:World} (h:Kp S a b) {B:Nat} (hB:B≤a.heap.size) (H: ∀k,S k→B≤k):Below B a b:=
 ⟨h.os,h.tape,h.output,h.size,fun k hk=>h.block k (Nat.lt_of_lt_of_le hk hB) (fun e=>by have :=H k e;omega)⟩
theorem Kp.grownBy {a b:World} {r:Nat} (h:Kp (fun k=>k=r) a b):a.grownBy b (some r):=
 ⟨h.os,h.tape,h.output,h.size,fun k hk hs=>h.block k hk (fun e=>hs (by rw[e]))⟩
theorem Kp.own {S:Nat→Prop} {a b:World} (h:Kp S a b) {base:Nat} {e:TypeId} {sz:Nat} {v:Value} {n:Nat} {xs:List Value} (ho:a.ownsRow base e sz v n xs) (hs: ∀k,v.ownBlock=some k→ ¬S k):b.ownsRow base e sz v n xs:=by
 obtain⟨h1,h2⟩:=ho
 refine⟨h1,?_⟩
 rcases h2 with h2|⟨g,cap,cur,hv,hg,hh,r⟩
 ·exact Or.inl h2
 ·exact Or.inr ⟨g,cap,cur,hv,hg,h.blk hh (hs g (by rw[hv];rfl)),r⟩

theorem hide {p:Prop} (h:p):Hid p:=h

theorem ret_bool {a b:Bool} (h:a=b):Ending.returned (.bool a)= .returned (.bool b):=by rw[h]

def no:Nat→Prop:=fun _=>False
theorem Kp.any {S:Nat→Prop} {a b:World} (h:Kp no a b):Kp S a b:=h.mono (fun _ _ h=>h.elim)
theorem Kp.then {S:Nat→Prop} {a b c:World} (h:Kp S a b) (h2:Kp no b c):Kp S a c:=h.trans h2.any
theorem Kp.allCells {a b:World} (h:Kp no a b) {p:Addr} {v:Value} (hk:a.cell? p=some v):b.cell? p=some v:=h.cell hk (fun h=>h)

def one (b:Nat):Nat→Prop:=fun k=>k=b

theorem cells_of {w:World} {b:Nat} {cs:Array Value} {t:TypeId} (h:w.heap[b]? =some (.cells cs t)):(∀o,w.cell? ⟨b,o,none⟩=cs[o]?)∧(∀o,w.frozen? ⟨b,o,none⟩=false):=by
 refine⟨fun o=>by simp[World.cell?,h],fun o=>by simp[World.frozen?,h]⟩
theorem heap_setCell {w:World} {b o:Nat} {cs:Array Value} {t:TypeId} {fr:Nat×Nat} (h:w.heap[b]? =some (.cells cs t fr)) (v:Value):(w.setCell ⟨b,o,none⟩ v).heap[b]? =some (.cells (cs.setIfInBounds o v) t fr):=by
 simp[World.setCell,Array.getElem?_modify,h]
theorem heap_setCell_ne {w:World} {b k o:Nat} {x:Obj} (hk:k≠b) (v:Value) (h:w.heap[k]? =some x):(w.setCell ⟨b,o,none⟩ v).heap[k]? =some x:=by
 rw[Below.heap_setCell _ _ _ _ hk];exact h
theorem heap_alloc_old {w:World} {k:Nat} {x o:Obj} (h:w.heap[k]? =some x):(w.alloc o).heap[k]? =some x:=by
 rw[Below.heap_alloc _ _ _ (lt_of_blk h)];exact h
theorem heap_alloc_new (w:World) (o:Obj):(w.alloc o).heap[w.heap.size]? =some o:=by
 show(w.heap.push o)[w.heap.size]? =_
 simp
theorem heap_drewN (w:World) (n:Nat):(w.drewN n).heap=w.heap:=rfl

theorem Kp.set1 {b:Nat} {x y:World} (h:Kp (one b) x y) (o:Nat) (u:Value):Kp (one b) x (y.setCell ⟨b,o,none⟩ u):=h.setCell (p:=⟨b,o,none⟩) (.inl rfl) u
theorem Kp.setAt {S:Nat→Prop} {b:Nat} {x y:World} (h:Kp S x y) (hs:S b) (o:Nat) (u:Value):Kp S x (y.setCell ⟨b,o,none⟩ u):=h.setCell (p:=⟨b,o,none⟩) (.inl hs) u
theorem Kp.setNew {S:Nat→Prop} {b:Nat} {x y:World} (h:Kp S x y) (hs:x.heap.size≤b) (o:Nat) (u:Value):Kp S x (y.setCell ⟨b,o,none⟩ u):=h.setCell (p:=⟨b,o,none⟩) (.inr hs) u

theorem own_shape {w:World} {base:Nat} {e:TypeId} {sz:Nat} {v:Value} {n:Nat} {xs:List Value} (h:w.ownsRow base e sz v n xs): ∃ad cap,v= .slice ad n cap:=by
 obtain⟨-,⟨rfl,rfl⟩|⟨g,cap,cur,rfl,-⟩⟩:=h
 ·exact⟨none,0,rfl⟩
 ·exact⟨_,_,rfl⟩

def RowAt (w:World) (v:Value) (sz n:Nat) (xs:List Value):Prop:=
 xs.length=n*sz∧((v= .slice none 0 0∧n=0)∨ ∃a o cap,v= .slice (some ⟨a,o,none⟩) n cap∧n≤cap∧ ∀k x,xs[k]? =some x→w.cell? ⟨a,o+k,none⟩=some x)

theorem RowAt.get {w:World} {v:Value} {sz n:Nat} {xs:List Value} (h:RowAt w v sz n xs) {k:Nat} {x:Value} (hk:xs[k]? =some x):
  ∃a o cap,v= .slice (some ⟨a,o,none⟩) n cap∧n≤cap∧w.cell? ⟨a,o+k,none⟩=some x:=by
 obtain⟨hl,⟨rfl,rfl⟩|⟨a,o,cap,rfl,hc,hcell⟩⟩:=h
 ·rw[Nat.zero_mul,List.length_eq_zero_iff]at hl;subst hl;simp at hk
 ·exact⟨a,o,cap,rfl,hc,hcell k x hk⟩
theorem RowAt.kp {S:Nat→Prop} {w w':World} {v:Value} {sz n:Nat} {xs:List Value} (h:RowAt w v sz n xs) (k:Kp S w w') (hs: ∀b,v.ownBlock=some b→ ¬S b):RowAt w' v sz n xs:=by
 obtain⟨hl,⟨rfl,rfl⟩|⟨a,o,cap,rfl,hc,hcell⟩⟩:=h
 ·exact⟨hl,.inl ⟨rfl,rfl⟩⟩
 ·exact⟨hl,.inr ⟨a,o,cap,rfl,hc,fun j x hj=>k.cell (hcell j x hj) (hs a rfl)⟩⟩
theorem RowAt.kp0 {S:Nat→Prop} {w w':World} {v:Value} {sz n:Nat} {xs:List Value} (h:RowAt w v sz n xs) (k:Kp S w w') (hs: ∀b,v.ownBlock=some b→b<w.heap.size→ ¬S b):RowAt w' v sz n xs:=by
 obtain⟨hl,⟨rfl,rfl⟩|⟨a,o,cap,rfl,hc,hcell⟩⟩:=h
 ·exact⟨hl,.inl ⟨rfl,rfl⟩⟩
 ·refine⟨hl,.inr ⟨a,o,cap,rfl,hc,fun j x hj=>k.cell (hcell j x hj) (hs a rfl ?_)⟩⟩
  have hx:=hcell j x hj
  rcases Nat.lt_or_ge a w.heap.size with h1|h1
  ·exact h1
  ·rw[World.cell?,Array.getElem?_eq_none h1]at hx;cases hx
theorem RowAt.nil (w:World) (sz:Nat):RowAt w (.slice none 0 0) sz 0 []:=⟨by simp,.inl ⟨rfl,rfl⟩⟩
theorem RowAt.shape {w:World} {v:Value} {sz n:Nat} {xs:List Value} (h:RowAt w v sz n xs): ∃ad cap,v= .slice ad n cap∧n≤cap:=by
 obtain⟨hl,⟨rfl,rfl⟩|⟨a,o,cap,rfl,hc,hcell⟩⟩:=h
 ·exact⟨none,0,rfl,Nat.le_refl _⟩
 ·exact⟨_,cap,rfl,hc⟩
theorem RowAt.own {w:World} {base:Nat} {e:TypeId} {sz:Nat} {v:Value} {n:Nat} {xs:List Value} (h:w.ownsRow base e sz v n xs):RowAt w v sz n xs:=by
 obtain⟨hl,⟨rfl,rfl⟩|⟨g,cap,cur,rfl,hg,hh,hc,hm,hs,ht⟩⟩:=h
 ·exact⟨hl,.inl ⟨rfl,rfl⟩⟩
 ·refine⟨hl,.inr ⟨g,0,cap,rfl,hc,fun k x hk=> ?_⟩⟩
  subst ht
  rw[List.getElem?_take]at hk
  split at hk
  ·simp[World.cell?,hh];simpa using hk
  ·cases hk
theorem own_new {w:World} {base:Nat} {e:TypeId} {sz:Nat} {v:Value} {n:Nat} {xs:List Value} (h:w.ownsRow base e sz v n xs): ∀k,v.ownBlock=some k→base≤k:=fun k hk=>(h.lt k hk).1

def BytesAt (w:World) (v:Value) (l:List UInt8):Prop:=RowAt w v 1 l.length (l.map fun c=> .int .u8 c.toNat)
def BoolsAt (w:World) (v:Value) (l:List Bool):Prop:=RowAt w v 1 l.length (l.map Value.bool)

theorem BytesAt.get {w:World} {v:Value} {l:List UInt8} (h:BytesAt w v l) {k:Nat} (hk:k<l.length):
  ∃a o cap,v= .slice (some ⟨a,o,none⟩) l.length cap∧l.length≤cap∧w.cell? ⟨a,o+k,none⟩=some (.int .u8 (l.getD k 0).toNat):=
 RowAt.get h (by simp[List.getD,List.getElem?_eq_getElem hk])
theorem BoolsAt.get {w:World} {v:Value} {l:List Bool} (h:BoolsAt w v l) {k:Nat} (hk:k<l.length):
  ∃a o cap,v= .slice (some ⟨a,o,none⟩) l.length cap∧l.length≤cap∧w.cell? ⟨a,o+k,none⟩=some (.bool (l.getD k false)):=
 RowAt.get h (by simp[List.getD,List.getElem?_eq_getElem hk])
theorem BytesAt.cases {w:World} {v:Value} {l:List UInt8} (h:BytesAt w v l):(v= .slice none 0 0∧l=[])∨ ∃a o cap,v= .slice (some ⟨a,o,none⟩) l.length cap∧l.length≤cap∧ ∀k,k<l.length→w.cell? ⟨a,o+k,none⟩=some (.int .u8 (l.getD k 0).toNat):=by
 obtain⟨hl,⟨rfl,hn⟩|⟨a,o,cap,rfl,hc,hcell⟩⟩:=h
 ·exact .inl ⟨rfl,List.length_eq_zero_iff.1 hn⟩
 ·exact .inr ⟨a,o,cap,rfl,hc,fun k hk=>hcell k _ (by simp[List.getD,List.getElem?_eq_getElem hk])⟩
theorem BytesAt.mk {w:World} {a o cap:Nat} {l:List UInt8} (hc:l.length≤cap) (h: ∀k,k<l.length→w.cell? ⟨a,o+k,none⟩=some (.int .u8 (l.getD k 0).toNat)):BytesAt w (.slice (some ⟨a,o,none⟩) l.length cap) l:=by
 refine⟨by simp,.inr ⟨a,o,cap,rfl,hc,fun k x hk=> ?_⟩⟩
 simp only[List.getElem?_map,Option.map_eq_some_iff]at hk
 obtain⟨c,hc',rfl⟩:=hk
 have hlt:k<l.length:=by
  rcases Nat.lt_or_ge k l.length with h1|h1
  ·exact h1
  ·rw[List.getElem?_eq_none h1]at hc';cases hc'
 rw[h k hlt];simp[List.getD,hc']
theorem BytesAt.nil (w:World):BytesAt w (.slice none 0 0) []:=RowAt.nil w 1
theorem BytesAt.kp {S:Nat→Prop} {w w':World} {v:Value} {l:List UInt8} (h:BytesAt w v l) (k:Kp S w w') (hs: ∀b,v.ownBlock=some b→ ¬S b):BytesAt w' v l:=RowAt.kp h k hs
theorem BoolsAt.kp {S:Nat→Prop} {w w':World} {v:Value} {l:List Bool} (h:BoolsAt w v l) (k:Kp S w w') (hs: ∀b,v.ownBlock=some b→ ¬S b):BoolsAt w' v l:=RowAt.kp h k hs

end Go.Proofs.YtdeplgkhmebalaaGreatDoor

set_option linter.unusedSimpArgs false
set_option linter.unusedVariables false
namespace Go.Proofs.YtdeplgkhmebalaaGreatDoor
open Go.RowKit

theorem grownBy_refl (w:World) (r:Option Nat):w.grownBy w r:=⟨rfl,rfl,rfl,Nat.le_refl _,fun _ _ _=>rfl⟩

section
variable{P:Program} (w:World)
theorem wp_append_row {o:Oper} {a:Act} {K:Act→World→Prop} {Q:Exit→Act→World→Prop} (s x:Operand) (t:TypeId)
  (ho:o.op= .call {callee:= .builtin .append,args:= #[s,x],argTypes:= #[t,t]})
  (base:Nat) (e:TypeId) (i:TypeInfo) (z:Value) (size bytes:Nat) (ht:P.underlying t=some (.slice e)) (hi:P.info? e=some i) (hz:i.zero=some z)
  (hsize:i.size=size) (hby:i.bytes=bytes) (hzs:z.cells.size=size) (hsz:0<size)
  (v:Value) (n:Nat) (xs:List Value) (hs:a.eval s=v) (hown:w.ownsRow base e size v n xs)
  (sv:Value) (m:Nat) (news:List Value) (hx:a.eval x=sv) (hsrc:RowAt w sv size m news) (h1: ∀u∈news,u.oneCell'=true)
  (h63:n+m≤maxLen) (hbytes:(n+m)*bytes≤140737488355328) (hbase:base≤w.heap.size)
  (h: ∀v' w',w'.ownsRow base e size v' (n+m) (xs++news)→w.grownBy w' v.ownBlock→K (a.put o.dst v') w'):o.wp P a w K Q:=by
 obtain⟨hl,⟨rfl,rfl⟩|⟨ad,of,cap,rfl,hc,hcell⟩⟩:=hsrc
 ·obtain rfl :news=[]:=List.length_eq_zero_iff.1 (by simpa using hl)
  have hr:=run_append_owned_none (P:=P) w base t o.type e i size ht hi v n xs hown
  unfold Oper.wp execOp
  simp only[ho,resolve,invoke,builtin,Sem.run_bind,Sem.run_pure,Result.andThen_ok,List.map_toArray,List.map_cons,List.map_nil,hs,hx,hr]
  exact h v w (by simpa using hown) (grownBy_refl _ _)
 ·exact wp_append_own w s x t ho base e i z size bytes ht hi hz hsize hby hzs hsz v n xs hs hown ⟨ad,of,none⟩ m cap news hx hl (fun j u hj=>by rw[Addr.add_lit];exact hcell j u hj) h1 h63 hbytes hbase (fun v' w' h2 h3 _=>h v' w' h2 h3)

theorem wpList_append_row {ops:Array Oper} {rest:List Oper} {o:Oper} {a:Act} {Q:Exit→Act→World→Prop} (hgd:o.guard=none) (s x:Operand) (t:TypeId)
  (ho:o.op= .call {callee:= .builtin .append,args:= #[s,x],argTypes:= #[t,t]})
  (base:Nat) (e:TypeId) (i:TypeInfo) (z:Value) (size bytes:Nat) (ht:P.underlying t=some (.slice e)) (hi:P.info? e=some i) (hz:i.zero=some z)
  (hsize:i.size=size) (hby:i.bytes=bytes) (hzs:z.cells.size=size) (hsz:0<size)
  (v:Value) (n:Nat) (xs:List Value) (hs:a.eval s=v) (hown:w.ownsRow base e size v n xs)
  (sv:Value) (m:Nat) (news:List Value) (hx:a.eval x=sv) (hsrc:RowAt w sv size m news) (h1: ∀u∈news,u.oneCell'=true)
  (h63:n+m≤maxLen) (hbytes:(n+m)*bytes≤140737488355328) (hbase:base≤w.heap.size)
  (h: ∀v' w',w'.ownsRow base e size v' (n+m) (xs++news)→w.grownBy w' v.ownBlock→wpList P ops Q rest (a.put o.dst v') w'):wpList P ops Q (o::rest) a w:=
 wpList_plain hgd fun _ hK=>wp_append_row w s x t ho base e i z size bytes ht hi hz hsize hby hzs hsz v n xs hs hown sv m news hx hsrc h1 h63 hbytes hbase fun v' w' h2 h3=>hK _ _ (h v' w' h2 h3)
end

theorem RowAt.new (w:World) (x:Value) (t:TypeId):RowAt (w.alloc (.cells #[x] t)) (.slice (some ⟨w.heap.size,0,none⟩) 1 1) 1 1 [x]:=
 ⟨rfl,.inr ⟨_,0,1,rfl,Nat.le_refl _,fun k u hk=>by rw[←Addr.add_lit];exact cell_one_new w x t k u hk⟩⟩
theorem bytes_oneCell (l:List UInt8): ∀u∈l.map (fun c=>Value.int .u8 c.toNat),u.oneCell'=true:=by
 intro u hu
 obtain⟨c,-,rfl⟩:=List.mem_map.1 hu
 rfl
theorem one_oneCell {x:Value} (h:x.oneCell'=true): ∀u∈[x],u.oneCell'=true:=by
 intro u hu;simp at hu;subst hu;exact h

end Go.Proofs.YtdeplgkhmebalaaGreatDoor
